import PyProof.Rows.All
import Wide.All
import OpenK.AllK
import Wide.FinOn
import PyProof.EqAt
import PyProof.EqKinds
import PyProof.TupleCall
import PyProof.InstNe
import KE.RegKIsAll
import HandS.ForMost
import HandS.Wide
import HandS.IsInst
import HandS.OwnEq
import HandS.Star
import HandS.Property
import HandS.Defaults
import HandS.WordsExc
import HandS.ExcOwn
import HandS.TupLe
import HandS.SortKw
import KE.KMinBuiltin
import HandS.TryOnly
import HandS.ExcIs
import HandS.CallLocal
import HandS.Walk
import HandS.StrMore
import HandS.FStr
import HandS.NoneIn
import HandS.SetFor
import PyProof.StrLaws
import HandS.Small
import HandS.StrSplit
import HandS.MakeKwOnly
import HandS.More
import HandS.WideBits
import KE.KSortKey
import HandS.HotCalls
import HandS.ExcInit
import HandS.ExcField
import HandS.ExcValue
import HandS.RaiseMore
import HandS.ExcIs
import KE.KExcIs
import HandS.Head0
import HandS.Head1
import HandS.Head2
import HandS.Head3
import HandS.HeadEnd
import HandS.HeadHook1
import HandS.HeadHook2
import HandS.HeadHook3
import PySem.Challenge.RW_ringindexes_k39_errors_stand_apart
set_option Elab.async false
set_option linter.all false
set_option maxRecDepth 100000
set_option maxHeartbeats 40000000
/-! ## steps of readings: each lemma opens one construct -/
namespace Rd
open PySem PySem.Spec PyProof.Rows L2

section
variable {σ : L2.St} {H : Hp} {Q : VK} {D : Ends} {K : PySem.W.Frag}
theorem seq {t u : TS} (h : t { D with nx := u D } σ H) : tSeq t u D σ H := h
theorem next (h : D.nx σ H) : tNext D σ H := h
theorem drop {te : TE} (h : te σ H fun _ H1 => D.nx σ H1) : tDrop te D σ H := h
theorem ret {te : TE} (h : te σ H D.rt) : tRet te D σ H := h
theorem retN (h : D.rt .non H) : tRetN D σ H := h
theorem brk (h : D.bk σ H) : tBreak D σ H := h
theorem cont (h : D.ct σ H) : tCont D σ H := h
theorem ifS {c : TT} {t u : TS} (h : c σ H fun b H1 => if b = true then t D σ H1 else u D σ H1) : tIfS c t u D σ H := h
theorem asg {te : TE} {g : TG} (h : te σ H fun x H1 => g x σ H1 D.nx) : tAsg te g D σ H := h
theorem name {i : Nat} {v : V} {q : L2.St → Hp → Prop} (h : q (σ.set i (some v)) H) : gName i v σ H q := h
theorem par {i j : Nat} {ta : TA} (h : ta σ H fun vs H1 => ∃ v w, vs = [v, w] ∧ D.nx ((σ.set i (some v)).set j (some w)) H1) : tPar i j ta D σ H := h
theorem par2 {i j : Nat} {v w : V} (h : D.nx ((σ.set i (some v)).set j (some w)) H) : ∃ v' w', [v, w] = [v', w'] ∧ D.nx ((σ.set i (some v')).set j (some w')) H := ⟨v, w, rfl, h⟩
theorem var {i : Nat} {v : V} (e : σ[i]? = some (some v)) (h : Q v H) : tVar i σ H Q := ⟨v, e, h⟩
theorem c {v : V} (h : Q v H) : tC v σ H Q := h
theorem op {r : R2} {ta tb : TE} (h : ta σ H fun x H1 => tb σ H1 fun y H2 => r x y H2 Q) : tOp r ta tb σ H Q := h
theorem un {r : V → Hp → VK → Prop} {ta : TE} (h : ta σ H fun x H1 => r x H1 Q) : tUn r ta σ H Q := h
theorem i0 {g : Int → Int → V} {i j : Int} (h : Q (g i j) H) : rI0 g (.int i) (.int j) H Q := ⟨i, j, rfl, rfl, h⟩
theorem iC {C : Int → Int → Prop} {g : Int → Int → V} {i j : Int} (e : C i j) (h : Q (g i j) H) : rI C g (.int i) (.int j) H Q := ⟨i, j, rfl, rfl, e, h⟩
theorem iU {g : Int → V} {i : Int} (h : Q (g i) H) : rU g (.int i) H Q := ⟨i, rfl, h⟩
theorem eqS {x y : V} (e : scal x y = true) (h : Q (.bl (decide (x = y))) H) : rEq x y H Q := ⟨e, h⟩
theorem neS {x y : V} (e : scal x y = true) (h : Q (.bl (!decide (x = y))) H) : rNe x y H Q := ⟨e, h⟩
theorem addS {i j : Str} (e : i.length + j.length ≤ sizeLine) (h : Q (.str (i ++ j)) H) : ∃ a b, V.str i = .str a ∧ V.str j = .str b ∧ a.length + b.length ≤ sizeLine ∧ Q (.str (a ++ b)) H := ⟨i, j, rfl, rfl, e, h⟩
theorem isN {x : V} (h : Q (.bl (decide (x = .non))) H) : V.non = .non ∧ Q (.bl (decide (x = .non))) H := ⟨rfl, h⟩
theorem notN {x : V} (h : Q (.bl (!decide (x = .non))) H) : V.non = .non ∧ Q (.bl (!decide (x = .non))) H := ⟨rfl, h⟩
theorem chain {r r' : R2} {ta tb tc : TE} (h : ta σ H fun x H1 => tb σ H1 fun y H2 => r x y H2 fun z H3 => ∃ k, z = .bl k ∧ (if k = true then tc σ H3 fun w' H4 => r' y w' H4 Q else Q (.bl false) H3)) : tChain r r' ta tb tc σ H Q := h
theorem bl {k : Bool} {A : Bool → Prop} (h : A k) : ∃ c, V.bl k = .bl c ∧ A c := ⟨k, rfl, h⟩
theorem test {t : TE} {q : Bool → Hp → Prop} (h : t σ H fun x H' => ∃ k, x = .bl k ∧ q k H') : tTest t σ H q := h
theorem tb {t : TE} {q : Bool → Hp → Prop} (h : t σ H fun x H' => ∃ k, x = .bl k ∧ q k H') : tB t σ H q := h
theorem and {t u : TT} {q : Bool → Hp → Prop} (h : t σ H fun c H1 => if c = true then u σ H1 q else q false H1) : tAnd t u σ H q := h
theorem or {t u : TT} {q : Bool → Hp → Prop} (h : t σ H fun c H1 => if c = true then q true H1 else u σ H1 q) : tOr t u σ H q := h
theorem not {t : TT} {q : Bool → Hp → Prop} (h : t σ H fun c H1 => q (!c) H1) : tNot t σ H q := h
theorem andV {ta tb : TE} (h : ta σ H fun x H1 => ∃ c, x = .bl c ∧ if c = true then tb σ H1 Q else Q (.bl false) H1) : tAndV ta tb σ H Q := h
theorem orV {ta tb : TE} (h : ta σ H fun x H1 => ∃ c, x = .bl c ∧ if c = true then Q (.bl true) H1 else tb σ H1 Q) : tOrV ta tb σ H Q := h
theorem notV {ta : TE} (h : ta σ H fun x H1 => ∃ c, x = .bl c ∧ Q (.bl (!c)) H1) : tNotV ta σ H Q := h
theorem ifE {t : TT} {ta tb : TE} (h : t σ H fun c H1 => if c = true then ta σ H1 Q else tb σ H1 Q) : tIf t ta tb σ H Q := h
theorem nil {q : List V → Hp → Prop} (h : q [] H) : tNil σ H q := h
theorem cons {ta : TE} {tr : TA} {q : List V → Hp → Prop} (h : ta σ H fun x H1 => tr σ H1 fun xs H2 => q (x :: xs) H2) : tCons ta tr σ H q := h
theorem cB {r : List V → Hp → VK → Prop} {t : TA} (h : t σ H fun vs H1 => r vs H1 Q) : tCB r t σ H Q := h
theorem tup {t : TA} (h : t σ H fun xs H1 => xs.length ≤ sizeLine ∧ ∀ p, H1 p = none → Q (.ref p) (upd H1 p (.tup xs))) : tTup t σ H Q := h
theorem lst {t : TA} (h : t σ H fun xs H1 => xs.length ≤ sizeLine ∧ ∀ p, H1 p = none → Q (.ref p) (upd H1 p (.lst xs))) : tLst t σ H Q := h
theorem laid {xs : List V} {A : Addr → Prop} (e : xs.length ≤ 1000) (h : ∀ p, H p = none → A p) : xs.length ≤ sizeLine ∧ ∀ p, H p = none → A p := ⟨Nat.le_of_lt (small1000 e), h⟩
theorem call {sp : Sp} {dvs : List V} {E : XK} {t : TA} (h : t σ H fun vs H1 => sp (vs ++ dvs) H1 Q E) : tCall sp dvs E t σ H Q := h
theorem meth {C : Addr} {m : Str} {sp : Sp} {dvs : List V} {E : XK} {ta : TE} {t : TA} (h : ta σ H fun x H1 => ∃ a dx fs, x = .ref a ∧ H1 a = some (.ins C dx fs) ∧ fs.lookup m = none ∧ t σ H1 fun vs H2 => sp (x :: (vs ++ dvs)) H2 Q E) : tMeth C m sp dvs E ta t σ H Q := h
theorem meth2 {C a dx : Addr} {fs : List (Str × V)} {m : Str} {A : Prop} (e : H a = some (.ins C dx fs)) (l : fs.lookup m = none) (h : A) : ∃ a' dx fs, V.ref a = .ref a' ∧ H a' = some (.ins C dx fs) ∧ fs.lookup m = none ∧ A := ⟨a, dx, fs, rfl, e, l, h⟩
theorem make {C : Addr} {sp : Sp} {dvs : List V} {E : XK} {t : TA} (h : t σ H fun vs H1 => ∀ x dx, H1 x = none → H1 dx = none → dx ≠ x → sp (.ref x :: (vs ++ dvs)) (upd (upd H1 dx (.own x)) x (.ins C dx [])) (fun v H2 => v = .non ∧ Q (.ref x) H2) E) : tMake C sp dvs E t σ H Q := h
theorem fld {ta : TE} {f : Str} (h : ta σ H fun x H1 => ∃ a C dx fs v, x = .ref a ∧ H1 a = some (.ins C dx fs) ∧ Cls K C ∧ NoAttr K C f ∧ fs.lookup f = some v ∧ Q v H1) : tFld K ta f σ H Q := h
theorem fld2 {f : Str} {a C dx : Addr} {fs : List (Str × V)} {v : V} (e : H a = some (.ins C dx fs)) (k : Cls K C) (n : NoAttr K C f) (l : fs.lookup f = some v) (h : Q v H) :
    ∃ a' C' dx fs v, V.ref a = .ref a' ∧ H a' = some (.ins C' dx fs) ∧ Cls K C' ∧ NoAttr K C' f ∧ fs.lookup f = some v ∧ Q v H := ⟨a, C, dx, fs, v, rfl, e, k, n, l, h⟩
theorem sfld {ta tv : TE} {f : Str} (h : tv σ H fun y H1 => ta σ H1 fun x H2 => ∃ a C dx fs, x = .ref a ∧ H2 a = some (.ins C dx fs) ∧ Cls K C ∧ NoAttr K C f ∧ fs.length < 1000 ∧ D.nx σ (upd H2 a (.ins C dx (putF f y fs)))) : sFld K ta tv f D σ H := h
theorem gnil {q : L2.St → Hp → Prop} (h : q σ H) : gNil [] σ H q := ⟨rfl, h⟩
theorem gcons {t : TG} {u : TGs} {v : V} {r : List V} {q : L2.St → Hp → Prop} (h : t v σ H fun σ' H' => u r σ' H' q) : gCons t u (v :: r) σ H q := ⟨v, r, rfl, h⟩
theorem gtup {n : Nat} {t : TGs} {a : Addr} {xs : List V} {q : L2.St → Hp → Prop} (e : SqT K H a xs) (l : xs.length = n) (h : t xs σ H q) : gTup K n t (.ref a) σ H q := ⟨a, xs, rfl, e, l, h⟩
theorem fr {wi : TI} {g : TG} {tb : TS} (h : wi σ H fun J H1 => ∃ W : Nat → Nat → L2.St → Hp → Prop, (∃ m, W 0 m σ H1) ∧ ∀ i m σ H, W i m σ H →
    (J.stop i H ∧ D.nx σ H) ∨ (J.go i H ∧ ∃ N : L2.St → Hp → Prop, (∀ σ' H', N σ' H' → ∃ m', m' < m ∧ W (i + 1) m' σ' H') ∧ ∀ x H', J.yld i H x H' → g x σ H' fun σ2 H2 => tb { D with nx := N, ct := N, bk := D.nx } σ2 H2)) : tFor wi g tb D σ H := h
theorem rng1 {ta : TA} {R : It → Hp → Prop} (h : ta σ H fun vs H1 => ∃ j : Int, vs = [.int j] ∧ -(2 ^ 62) ≤ j ∧ j < 2 ^ 62 ∧ R (Itr 0 j.toNat) H1) : iRng1 ta σ H R := h
theorem prop {C : Addr} {sp : Sp} {dvs : List V} {E : XK} {ta : TE} (h : ta σ H fun x H1 => ∃ a dx fs, x = .ref a ∧ H1 a = some (.ins C dx fs) ∧ sp (.ref a :: dvs) H1 Q E) : tProp C sp dvs E ta σ H Q := h
theorem aug {i : Nat} {te : TE} {ti : TIp} {x : V} (e : σ[i]? = some (some x)) (h : te σ H fun y H1 => ti x y H1 fun z H2 => D.nx (σ.set i (some z)) H2) : tAug i te ti D σ H := ⟨x, e, h⟩
theorem ipI {f : Int → Int → Int} {i j : Int} (h : Q (.int (f i j)) H) : L2.ipI f (.int i) (.int j) H Q := ⟨i, j, rfl, rfl, h⟩
theorem ixL {a : Addr} {xs : List V} {i : Int} {v : V} (e : SqL K H a xs) (l : atI xs i = some v) (h : Q v H) : rIxL K (.ref a) (.int i) H Q := ⟨a, xs, i, v, rfl, rfl, e, l, h⟩
theorem ixT {a : Addr} {xs : List V} {i : Int} {v : V} (e : SqT K H a xs) (l : atI xs i = some v) (h : Q v H) : rIxT K (.ref a) (.int i) H Q := ⟨a, xs, i, v, rfl, rfl, e, l, h⟩
theorem setL {a : Addr} {xs : List V} {k : Int} {j : Nat} {v : V} {q : Hp → Prop} (e : H a = some (.lst xs)) (l : ixN xs.length k = some j) (h : q (upd H a (.lst (xs.set j v)))) : rSetL (.ref a) (.int k) v H q := ⟨a, xs, k, j, rfl, rfl, e, l, h⟩
theorem sub {to ti : TE} {t : TSet} {v : V} {q : L2.St → Hp → Prop} (h : to σ H fun o H1 => ti σ H1 fun i H2 => t o i v H2 fun H3 => q σ H3) : gSub to ti t v σ H q := h
theorem lenQ {a : Addr} {xs : List V} (e : SqL K H a xs ∨ SqT K H a xs) (h : Q (.int xs.length) H) : ∃ p ys, [V.ref a] = [.ref p] ∧ (SqL K H p ys ∨ SqT K H p ys) ∧ Q (.int ys.length) H := ⟨a, xs, rfl, e, h⟩
theorem absI {i : Int} (h : Q (.int (if i < 0 then -i else i)) H) : ∃ j, [V.int i] = [.int j] ∧ Q (.int (if j < 0 then -j else j)) H := ⟨i, rfl, h⟩
theorem intI {i : Int} (h : Q (.int i) H) : (∃ j, [V.int i] = [.int j] ∧ Q (.int j) H) ∨ ∃ k, [V.int i] = [.bl k] ∧ Q (.int (if k then 1 else 0)) H := .inl ⟨i, rfl, h⟩
theorem ite {c A B : Prop} [Decidable c] (h1 : c → A) (h2 : ¬ c → B) : if c then A else B := by
  by_cases h : c
  · rw [if_pos h]; exact h1 h
  · rw [if_neg h]; exact h2 h
theorem iteT {b : Bool} {A B : Prop} (e : b = true) (h : A) : if b = true then A else B := by rw [if_pos e]; exact h
theorem iteF {b : Bool} {A B : Prop} (e : b = false) (h : B) : if b = true then A else B := by rw [e]; exact h
theorem andB {c d : Bool} {t : TE} (h1 : ∀ Q' : VK, Q' (.bl d) H → t σ H Q') (h : Q (.bl (c && d)) H) : if c = true then t σ H Q else Q (.bl false) H := by
  cases c with
  | true => exact h1 Q h
  | false => exact h
theorem orB {c d : Bool} {t : TE} (h1 : ∀ Q' : VK, Q' (.bl d) H → t σ H Q') (h : Q (.bl (c || d)) H) : if c = true then Q (.bl true) H else t σ H Q := by
  cases c with
  | true => exact h
  | false => exact h1 Q h
end
theorem lput {f : Str} {v : V} {fs : List (Str × V)} {n : Nat} (h : fs.length + 1 < n) : (putF f v fs).length < n := Nat.lt_of_le_of_lt (by have := length_putF f v fs; omega) h
theorem lputs {f : Str} {v : V} {fs : List (Str × V)} {n k : Nat} (h : fs.length + (k + 1) < n) : (putF f v fs).length + k < n := Nat.lt_of_le_of_lt (by have := length_putF f v fs; omega) h
theorem ty_tup {K : PySem.W.Frag} {H : Hp} {a : Addr} {xs : List V} (e : H a = some (.tup xs)) : TyX K H (.ref a) (.type "tuple") := .base (.tup e)
theorem ty_lst {K : PySem.W.Frag} {H : Hp} {a : Addr} {xs : List V} (e : H a = some (.lst xs)) : TyX K H (.ref a) (.type "list") := .base (.lst e)
section
variable {K : PySem.W.Frag}
theorem kit_int_int : PySem.W.kitOne K (.type "int") (.type "int") = some true := kit_ty (by decide +kernel)
theorem kit_bool_int : PySem.W.kitOne K (.type "bool") (.type "int") = some true := kit_ty (by decide +kernel)
theorem kit_str_int : PySem.W.kitOne K (.type "str") (.type "int") = some false := kit_ty (by decide +kernel)
theorem kit_none_int : PySem.W.kitOne K (.type "NoneType") (.type "int") = some false := kit_ty (by decide +kernel)
theorem kit_tuple_int : PySem.W.kitOne K (.type "tuple") (.type "int") = some false := kit_ty (by decide +kernel)
theorem kit_list_int : PySem.W.kitOne K (.type "list") (.type "int") = some false := kit_ty (by decide +kernel)
theorem kit_dict_int : PySem.W.kitOne K (.type "dict") (.type "int") = some false := kit_ty (by decide +kernel)
theorem kit_int_bool : PySem.W.kitOne K (.type "int") (.type "bool") = some false := kit_ty (by decide +kernel)
theorem kit_bool_bool : PySem.W.kitOne K (.type "bool") (.type "bool") = some true := kit_ty (by decide +kernel)
theorem kit_str_bool : PySem.W.kitOne K (.type "str") (.type "bool") = some false := kit_ty (by decide +kernel)
theorem kit_str_str : PySem.W.kitOne K (.type "str") (.type "str") = some true := kit_ty (by decide +kernel)
theorem kit_int_str : PySem.W.kitOne K (.type "int") (.type "str") = some false := kit_ty (by decide +kernel)
end
end Rd


/-! ## the operators of own classes, as rules of the layer -/
namespace Own
open PySem PySem.Spec PyProof.Rows L2
section
variable {X : Cx} {pins : List (Addr × Obj)} {σ : L2.St} {H : Hp} {s : Shared}
/-- a value of the layer is never the sign of a declined operator -/
theorem not_declined {v : V} {u : Value} (r : RelV v u) : u ≠ .notImplemented := by
  intro e
  subst e
  cases v with
  | non => cases (show Value.notImplemented = Value.none from r)
  | bl b => cases (show Value.notImplemented = Value.bool b from r)
  | int i => obtain ⟨t, q⟩ := (show ∃ t, Value.notImplemented = Value.int i t from r); cases q
  | str i => obtain ⟨t, q⟩ := (show ∃ t, Value.notImplemented = Value.str i t from r); cases q
  | byt i => obtain ⟨t, q⟩ := (show ∃ t, Value.notImplemented = Value.bytes i t from r); cases q
  | flt i => obtain ⟨t, q⟩ := (show ∃ t, Value.notImplemented = Value.float i t from r); cases q
  | ref a => cases (show Value.notImplemented = Value.ref a from r)
  | ty n => cases (show Value.notImplemented = Value.type n from r)
theorem back {M : Model} {A : Around} {E : Value → Shared → Prop} {m : Sem Value} {Q : VK} (h : wpAny M A m (EP X pins σ Q) E s) : wpAny M A m (PySem.W.CmpBack (EP X pins σ Q)) E s :=
  wpAny_mono h (fun u s' q => by
    have n : u ≠ .notImplemented := by
      obtain ⟨z, H', I, r, _⟩ := q
      exact not_declined r
    cases u <;> first | exact q | exact absurd rfl n) fun _ _ e => e
/-- an instance as the library's rules ask for it -/
theorem inst {a C dx : Addr} {fs : List (Str × V)} (I : Inv X pins σ H s) (h : H a = some (.ins C dx fs)) : ∃ od, PySem.W.InstAt s.heap a (PySem.W.instObj C dx) C od := by
  obtain ⟨mA, J, _⟩ := ins_get I.hok h
  obtain ⟨od, J, _⟩ := J.look
  exact ⟨_, J⟩
/-- the type of any value, told without a step that matters -/
theorem typed {M : Model} {x : V} {u : Value} {t : Value} (I : Inv X pins σ H s) (r : RelV x u) (ty : TyX X.K H x t) : PySem.W.Looks M s.heap (typeOf u) t := by
  obtain ⟨P, Z, p, _⟩ := kit_of I r ty
  exact Z.ty M s.heap I.kIn p
end

/-- an own method behind an operator -/
structure Sp1 (K : PySem.W.Frag) (C : Addr) (m : Str) (f : Addr) : Prop where
  at_ : PySem.W.findIn K (.ref C) m = some (some (.ref f))
  fn : PySem.W.isFn K (.ref f) = true
/-- a two-place operator of an own class -/
structure Bin (K : PySem.W.Frag) (C f : Addr) (op : Operator) : Prop where
  first : PySem.W.selfFirst K C = true
  at_ : PySem.W.findIn K (.ref C) (PySem.dunder op.info.2) = some (some (.ref f))
  fn : PySem.W.isFn K (.ref f) = true
/-- .. beside a value of the built-in type T -/
structure BinT (K : PySem.W.Frag) (C f : Addr) (op : Operator) (T : String) : Prop where
  b : Bin K C f op
  r : ∃ rc, PySem.W.findIn K (.ref C) (dunderR op.info.2) = some rc ∧ (rc = none ∨ ∃ g : Addr, rc = some (.ref g))
  l1 : ∃ fo, PySem.W.findIn K (.type T) (PySem.dunder op.info.2) = some fo
  l2 : ∃ ro, PySem.W.findIn K (.type T) (dunderR op.info.2) = some ro
  sub : PySem.W.subIn K (.type T) (.ref C) = some false

def rSame (C : Addr) (sp : Sp) (E : XK) : R2 := fun x y H Q => ∃ a b dx dy fs gs, x = .ref a ∧ y = .ref b ∧ H a = some (.ins C dx fs) ∧ H b = some (.ins C dy gs) ∧ sp [.ref a, .ref b] H Q E
def rLeft (C : Addr) (T : String) (sp : Sp) (E : XK) : R2 := fun x y H Q => ∃ a dx fs, x = .ref a ∧ H a = some (.ins C dx fs) ∧ (∀ u, RelV y u → typeOf u = pure (.type T)) ∧ sp [.ref a, y] H Q E
def rCmp (K : PySem.W.Frag) (C : Addr) (sp : Sp) (E : XK) : R2 := fun x y H Q => ∃ a dx fs t, x = .ref a ∧ H a = some (.ins C dx fs) ∧ TyX K H y t ∧ PySem.W.notFirst K C t = true ∧ sp [.ref a, y] H Q E
def rOne (C : Addr) (sp : Sp) (E : XK) : V → Hp → VK → Prop := fun x H Q => ∃ a dx fs, x = .ref a ∧ H a = some (.ins C dx fs) ∧ sp [.ref a] H Q E

section
variable {X : Cx} {CX : CXT} {k : Nat} {f C : Addr} {fd : FuncData} {ps : List Str} {sp : Sp} {E : XK} {op : Operator} {cop : CmpOp} {T : String}
theorem run2 {pins : List (Addr × Obj)} {σ : L2.St} {H : Hp} {s : Shared} {Q : VK} {x y : V} {u v : Value} (F : FnOk X.prog X.w X.K X.mg X.base CX k f fd ps sp) (hr : Room k X.A) (hb : Binds X.K fd ps []) (hx : Passes CX X E)
    (I : Inv X pins σ H s) (rx : RelV x u) (ry : RelV y v) (h : sp [x, y] H Q E) : wpAny (model X.prog X.w) X.A (call (.ref f) [u, v]) (EP X pins σ Q) X.xe s :=
  run_fn (us := [u, v]) (vs := [x, y]) F hr hb .nil hx I (.cons rx (.cons ry .nil)) h
theorem opS (F : FnOk X.prog X.w X.K X.mg X.base CX k f fd ps sp) (hr : Room k X.A) (B : Bin X.K C f op) (hb : Binds X.K fd ps []) (hx : Passes CX X E) : OpR X (binaryOp op) (rSame C sp E) := by
  rintro pins s σ H x y u v Q I rx ry ⟨a, b, dx, dy, fs, gs, rfl, rfl, ha, hb', q⟩
  cases rx
  cases ry
  obtain ⟨od, J⟩ := inst I ha
  obtain ⟨od', J'⟩ := inst I hb'
  obtain ⟨m, hF⟩ := I.fr
  exact PySem.W.binop_K hF I.ok.mod.kin J J'.type B.first B.at_ B.fn (back (run2 (x := .ref a) (y := .ref b) F hr hb hx I rfl rfl q))
theorem opT (F : FnOk X.prog X.w X.K X.mg X.base CX k f fd ps sp) (hr : Room k X.A) (B : BinT X.K C f op T) (hb : Binds X.K fd ps []) (hx : Passes CX X E) : OpR X (binaryOp op) (rLeft C T sp E) := by
  rintro pins s σ H x y u v Q I rx ry ⟨a, dx, fs, rfl, ha, ty, q⟩
  cases rx
  obtain ⟨od, J⟩ := inst I ha
  obtain ⟨m, hF⟩ := I.fr
  obtain ⟨⟨b1, b2, b3⟩, ⟨rc, r1, r2⟩, ⟨fo, l1⟩, ⟨ro, l2⟩, sb⟩ := B
  exact PySem.W.ksp_binT hF I.ok.mod.kin J (ty _ ry) b1 b2 b3 r1 r2 l1 l2 sb (back (run2 (x := .ref a) F hr hb hx I rfl ry q))
theorem iopT (F : FnOk X.prog X.w X.K X.mg X.base CX k f fd ps sp) (hr : Room k X.A) (h1 : PySem.W.selfFirst X.K C = true) (h2 : Sp1 X.K C (dunderI op.info.2) f) (hb : Binds X.K fd ps []) (hx : Passes CX X E) :
    OpR X (inplaceOp op) (fun x y H Q => ∃ a dx fs, x = .ref a ∧ H a = some (.ins C dx fs) ∧ sp [.ref a, y] H Q E) := by
  rintro pins s σ H x y u v Q I rx ry ⟨a, dx, fs, rfl, ha, q⟩
  cases rx
  obtain ⟨od, J⟩ := inst I ha
  obtain ⟨m, hF⟩ := I.fr
  exact PySem.W.ksp_inplace hF I.ok.mod.kin J h1 h2.at_ h2.fn (back (run2 (x := .ref a) F hr hb hx I rfl ry q))
theorem neg (F : FnOk X.prog X.w X.K X.mg X.base CX k f fd ps sp) (hr : Room k X.A) (B : Sp1 X.K C "__neg__" f) (hb : Binds X.K fd ps []) (hx : Passes CX X E) : UnR X (unaryOp .USub) (rOne C sp E) := by
  rintro pins s σ H x u Q I rx ⟨a, dx, fs, rfl, ha, q⟩
  cases rx
  obtain ⟨od, J⟩ := inst I ha
  obtain ⟨m, hF⟩ := I.fr
  exact PySem.W.ksp_neg hF I.ok.mod.kin J B.at_ B.fn (run_fn (us := [.ref a]) (vs := [.ref a]) F hr hb .nil hx I (.cons rfl .nil) q)
theorem cmp (F : FnOk X.prog X.w X.K X.mg X.base CX k f fd ps sp) (hr : Room k X.A) (B : Sp1 X.K C (cmpInfo cop).2.1 f) (hb : Binds X.K fd ps []) (hx : Passes CX X E)
    (ho : ∀ a b, compareOp cop a b = richCompare cop a b := by intro _ _; rfl) : OpR X (compareOp cop) (rCmp X.K C sp E) := by
  rintro pins s σ H x y u v Q I rx ry ⟨a, dx, fs, t, rfl, ha, ty, nf, q⟩
  cases rx
  obtain ⟨od, J⟩ := inst I ha
  obtain ⟨m, hF⟩ := I.fr
  rw [ho]
  exact PySem.W.cmp_K hr.units0 hF I.ok.mod.kin J (typed I ry ty) nf B.at_ B.fn (back (run2 (x := .ref a) F hr hb hx I rfl ry q))
/-- o[i] by the own __getitem__ -/
theorem item (F : FnOk X.prog X.w X.K X.mg X.base CX k f fd ps sp) (hr : Room k X.A) (B : Sp1 X.K C "__getitem__" f) (hq : PySem.W.noSeq X.K C = true) (hb : Binds X.K fd ps []) (hx : Passes CX X E) :
    OpR X getItem (fun x y H Q => ∃ a dx fs, x = .ref a ∧ H a = some (.ins C dx fs) ∧ sp [.ref a, y] H Q E) := by
  rintro pins s σ H x y u v Q I rx ry ⟨a, dx, fs, rfl, ha, q⟩
  cases rx
  obtain ⟨od, J⟩ := inst I ha
  obtain ⟨m, hF⟩ := I.fr
  exact PySem.W.getItem_K hF I.ok.mod.kin J hq B.at_ B.fn (run2 (x := .ref a) F hr hb hx I rfl ry q)
/-- x in o by the own __contains__, which gives a bool -/
theorem isin (F : FnOk X.prog X.w X.K X.mg X.base CX k f fd ps sp) (hr : Room k X.A) (B : Sp1 X.K C "__contains__" f) (hb : Binds X.K fd ps []) (hx : Passes CX X E) :
    OpR X (compareOp .In) (fun x y H Q => ∃ a dx fs, y = .ref a ∧ H a = some (.ins C dx fs) ∧ sp [.ref a, x] H (fun v H' => ∃ b, v = .bl b ∧ Q (.bl b) H') E) := by
  rintro pins s σ H x y u v Q I rx ry ⟨a, dx, fs, rfl, ha, q⟩
  cases ry
  obtain ⟨od, J⟩ := inst I ha
  obtain ⟨m, hF⟩ := I.fr
  refine PySem.W.in_K hF I.ok.mod.kin J B.at_ B.fn (wpAny_mono (run2 (x := .ref a) F hr hb hx I rfl rx q) (fun r s' hq => ?_) fun _ _ e => e)
  obtain ⟨z, H', I', rz, b, rfl, q'⟩ := hq
  cases rz
  exact wpAny_truthy_bool ⟨.bl b, H', I', rfl, q'⟩
/-- truth by the own __bool__ -/
theorem truth (F : FnOk X.prog X.w X.K X.mg X.base CX k f fd ps sp) (hr : Room k X.A) (B : Sp1 X.K C "__bool__" f) (hb : Binds X.K fd ps []) (hx : Passes CX X E) :
    TruR X (fun x H Q => ∃ a dx fs, x = .ref a ∧ H a = some (.ins C dx fs) ∧ sp [.ref a] H (fun v H' => ∃ b, v = .bl b ∧ Q b H') E) := by
  rintro pins s σ H x u Q I rx ⟨a, dx, fs, rfl, ha, q⟩
  cases rx
  obtain ⟨od, J⟩ := inst I ha
  obtain ⟨m, hF⟩ := I.fr
  refine PySem.W.truthy_K hF I.ok.mod.kin J B.at_ B.fn (wpAny_mono (run_fn (us := [.ref a]) (vs := [.ref a]) F hr hb .nil hx I (.cons rfl .nil) q) (fun r s' hq => ?_) fun _ _ e => e)
  obtain ⟨z, H', I', rz, b, rfl, q'⟩ := hq
  cases rz
  exact ⟨H', I', q'⟩
end
end Own
/-! ## int op own: the reflected operator; != by the inherited rule over the own ==; len; a call of an instance -/
namespace Own
open PySem PySem.Spec PyProof.Rows
section
variable {prog : Program} {w : World} {A : Around} {E : Value → Shared → Prop} {s : Shared} {K : PySem.W.Frag} {x C dx f : Addr} {od : Option Obj}
theorem decl_add {i : Int} {t : Tok} {Q : Shared → Prop} (h : s.heap.get? x = some (PySem.W.instObj C dx)) (hq : Q s) :
    wpAny (model prog w) A (Builtin.«int.__add__» ⟨[.int i t, .ref x], []⟩) (fun fin s' => ∃ v, fin = .done (.ret v) ∧ v = .notImplemented ∧ Q s') E s := by
  obtain ⟨hp, g, d, tk, os⟩ := s
  wp_walk using wpAny_load h
  exact ⟨_, rfl, rfl, hq⟩
theorem decl_sub {i : Int} {t : Tok} {Q : Shared → Prop} (h : s.heap.get? x = some (PySem.W.instObj C dx)) (hq : Q s) :
    wpAny (model prog w) A (Builtin.«int.__sub__» ⟨[.int i t, .ref x], []⟩) (fun fin s' => ∃ v, fin = .done (.ret v) ∧ v = .notImplemented ∧ Q s') E s := by
  obtain ⟨hp, g, d, tk, os⟩ := s
  wp_walk using wpAny_load h
  exact ⟨_, rfl, rfl, hq⟩
theorem decl_mul {i : Int} {t : Tok} {Q : Shared → Prop} (h : s.heap.get? x = some (PySem.W.instObj C dx)) (hq : Q s) :
    wpAny (model prog w) A (Builtin.«int.__mul__» ⟨[.int i t, .ref x], []⟩) (fun fin s' => ∃ v, fin = .done (.ret v) ∧ v = .notImplemented ∧ Q s') E s := by
  obtain ⟨hp, g, d, tk, os⟩ := s
  wp_walk using wpAny_load h
  exact ⟨_, rfl, rfl, hq⟩
end
end Own
namespace Own
open PySem PySem.Spec PyProof.Rows
section
variable {prog : Program} {w : World} {A : Around} {E : Value → Shared → Prop} {s : Shared} {K : PySem.W.Frag} {x C dx f f0 : Addr} {od : Option Obj} {op : Operator} {id : String}
/-- an int declines an operator beside an instance, then the instance's reflected one is asked -/
theorem binR {i : Int} {t : Tok} {Q : Value → Shared → Prop} (KX : K.In s.heap) (I : PySem.W.InstAt s.heap x (PySem.W.instObj C dx) C od) (hc : PySem.W.selfFirst K C = true)
    (h0 : PySem.W.findIn K (.ref C) (PySem.dunder op.info.2) = some (some (.ref f0))) (h1 : PySem.W.findIn K (.ref C) (dunderR op.info.2) = some (some (.ref f))) (hf : PySem.W.isFn K (.ref f) = true)
    (hsub : PySem.W.subIn K (.ref C) (.type "int") = some false) (hfill : fillsNumberSlot (.type "int") op.info.2 = pure true) (slot : Slot "int" (PySem.dunder op.info.2) id)
    (decl : wpAny (model prog w) A (call (.builtin id) [.int i t, .ref x]) (fun v s' => v = .notImplemented ∧ s'.heap = s.heap ∧ s'.gens = s.gens ∧ s'.drawn = s.drawn ∧ s'.os = s.os ∧ s'.toks = s.toks) E s)
    (h : wpAny (model prog w) A (call (.ref f) [.ref x, .int i t]) (PySem.W.CmpBack Q) E s) : wpAny (model prog w) A (binaryOp op (.int i t) (.ref x)) Q E s := by
  obtain ⟨cd, rest, hcd, hm⟩ := PySem.W.ksp_first hc
  rcases hi : op.info with ⟨sym, nm⟩
  rw [hi] at h0 h1 hfill slot
  dsimp only at h0 h1 hfill slot
  have two := PySem.W.ksp_try KX I h1 hf h
  obtain ⟨hh, g, d, tt, os⟩ := s
  have L1 : PySem.W.Looks (model prog w) hh (typeOf (.ref x)) (.ref C) := I.type
  have L3 : PySem.W.Looks (model prog w) hh (fillsNumberSlot (.ref C) nm) true := PySem.W.fills_K KX hcd hm h0
  have L5 : PySem.W.Looks (model prog w) hh (isSubtype (.ref C) (.type "int")) false := PySem.W.looks_subIn KX hsub
  have hne : (Value.type "int" == Value.ref C) = false := Bool.eq_false_iff.mpr fun q => by cases beq_iff_eq.mp q
  have hpy : numberSlotInPython (.type "int") nm = pure false := rfl
  have one : wpAny (model prog w) A (tryMethod (.int i t) (PySem.dunder nm) (.ref x)) (fun r s' => r = none ∧ s'.heap = hh ∧ s'.gens = g ∧ s'.drawn = d ∧ s'.os = os ∧ s'.toks = tt) E ⟨hh, g, d, tt, os⟩ :=
    wpAny_tryMethod_declines (T := "int") (typeIs_int _ i t) slot (wpAny_mono decl (fun v s' q => ⟨q.1, rfl, q.2⟩) fun _ _ e => e)
  simp only [binaryOp, hi]
  refine wpAny_holding (wpAny_bind ?_)
  unfold binaryOp1
  refine wpAny_bind (wpAny_typeOf (typeIs_int _ i t) (wpAny_bind (L1.at (wpAny_bind (wpAny_of_eq hfill ?_)))))
  simp only [hne, Bool.false_eq_true, if_false]
  refine wpAny_bind (L3.at ?_)
  simp only [Bool.and_self, if_true]
  refine wpAny_bind (L5.at ?_)
  simp only [Bool.false_eq_true, if_false, pure_bind, Bool.not_false, Bool.and_self, if_true, hpy]
  refine wpAny_bind (wpAny_mono one (fun r s' q => ?_) fun _ _ e => e)
  obtain ⟨h1, g1, d1, t1, o1⟩ := s'
  obtain ⟨rfl, q1, q2, q3, q4, q5⟩ := q
  dsimp only at q1 q2 q3 q4 q5
  subst q1 q2 q3 q4 q5
  dsimp only
  refine wpAny_bind (wpAny_mono two (fun r s' q => ?_) fun _ _ e => e)
  obtain ⟨v, rfl, q⟩ := q
  exact wpAny_bind (wpAny_rule (wpAny_pure (wpAny_pure q)))
end
end Own
namespace Own
open PySem PySem.Spec PyProof.Rows
theorem slot_ne : Slot "object" "__ne__" "object.__ne__" :=
  .of (T := "object") (name := "__ne__") (owner := "object") (n := "__ne__") (by rw [typeLookup_type, builtinLookup_eq_fast]; kernel_rfl) (by decide +kernel) (by decide +kernel) (by decide +kernel)
    (.inl (by decide +kernel)) (by rw [isSubtype_type]; kernel_rfl)
section
variable {prog : Program} {w : World} {A : Around} {E : Value → Shared → Prop} {s : Shared} {K : PySem.W.Frag} {x C dx f : Addr} {od : Option Obj} {b tb : Value}
theorem check_ne {M : Model} {Q : Unit → Shared → Prop} (I : PySem.W.InstAt s.heap x (PySem.W.instObj C dx) C od) (KX : K.In s.heap) (ho : PySem.W.subIn K (.ref C) (.type "object") = some true) (h : Q () s) :
    wpAny M A (checkBuiltinCall "object.__ne__" ⟨[.ref x, b], []⟩) Q E s := by
  have ha : argsOk "object.__ne__" ⟨[.ref x, b], []⟩ := by unfold argsOk; kernel_rfl
  have L : PySem.W.Looks M s.heap (isSubtype (.ref C) (.type "object")) true := PySem.W.looks_subIn KX ho
  have at_ := I.at_
  obtain ⟨hp, g, d, t, os⟩ := s
  simp only [checkBuiltinCall, F.cmpKind_ne, F.cmpSplit_ne]
  refine wpAny_bind ?_
  unfold isInstance
  repeat (first | (with_reducible refine wpAny_loadPart_at at_ ?_) | (with_reducible refine L.at ?_) | wp_step)
  exact h
/-- != of an instance whose class has an own == alone -/
theorem ne_K {Q : Value → Shared → Prop} (hu : A.units + 1 < cLine) (KX : K.In s.heap) (I : PySem.W.InstAt s.heap x (PySem.W.instObj C dx) C od) (hb : PySem.W.Looks (model prog w) s.heap (typeOf b) tb) (hn : PySem.W.notFirst K C tb = true)
    (h0 : PySem.W.findIn K (.ref C) "__ne__" = some (some (.builtin "object.__ne__"))) (h1 : PySem.W.findIn K (.ref C) "__eq__" = some (some (.ref f))) (hf : PySem.W.isFn K (.ref f) = true) (ho : PySem.W.subIn K (.ref C) (.type "object") = some true)
    (h : wpAny (model prog w) A.in1 (call (.ref f) [.ref x, b]) (fun v s' => ∃ c, v = .bool c ∧ Q (.bool (!c)) s') E s) : wpAny (model prog w) A (richCompare .NotEq (.ref x) b) Q E s := by
  have eqc : wpAny (model prog w) A.in1 (callSpecialIfBound? (.ref x) (Str.ofString "__eq__") [b]) (fun r s' => ∃ c, r = some (.bool c) ∧ Q (.bool (!c)) s') E s :=
    PySem.W.ifBound_K KX I h1 hf (wpAny_mono h (fun v s' ⟨c, e, q⟩ => ⟨c, by rw [e], q⟩) fun _ _ e => e)
  have body : wpAny (model prog w) A.in1 (Builtin.«object.__ne__» ⟨[.ref x, b], []⟩) (fun fin s' => ∃ v, fin = .done (.ret v) ∧ ∃ c, v = .bool (!c) ∧ Q (.bool (!c)) s') E s := by
    obtain ⟨hp, g, d, t, os⟩ := s
    unfold Builtin.«object.__ne__»
    repeat (first
      | with_reducible refine wpAny_cRoomFor hu ?_
      | (refine wpAny_bind (m := callSpecialIfBound? (.ref x) (Str.ofString "__eq__") [b]) (wpAny_mono eqc (fun r s' hr => ?_) fun _ _ e => e))
      | wp_step)
    obtain ⟨c, rfl, q⟩ := hr
    repeat (first
      | exact ⟨_, rfl, c, rfl, q⟩
      | exact wpAny_pure ⟨_, rfl, c, rfl, q⟩
      | (refine wpAny_bind (m := truthy (.bool _)) (wpAny_truthy_bool ?_))
      | wp_step)
  have one : wpAny (model prog w) A (tryCompare (.ref x) (Str.ofString "__ne__") b) (fun r s' => ∃ c, r = some (.bool (!c)) ∧ Q (.bool (!c)) s') E s := by
    unfold tryCompare
    refine wpAny_bind ?_
    simp only [callSpecialIfBound?, bindSpecialIfBound?]
    refine wpAny_holding (wpAny_bind (wpAny_bind (wpAny_bind (I.type.here ((PySem.W.looks_findIn KX h0).here ?_)))))
    have last : wpAny (model prog w) A (call (.builtin "object.__ne__") ([.ref x] ++ [b]) >>= fun v => pure (some v)) (fun a s' => wpAny (model prog w) A (match a with | some .notImplemented | none => pure none | some v => pure (some v)) (fun r s' => ∃ c, r = some (.bool (!c)) ∧ Q (.bool (!c)) s') E s') E s := by
      refine wpAny_bind (wpAny_call (codeAny_call_builtin slot_ne.plain F.cmpEntry_ne (check_ne I KX ho (wpAny_mono body (fun fin s' hv => ?_) fun _ _ e => e))))
      obtain ⟨v, rfl, c, rfl, q⟩ := hv
      exact wpAny_pure (wpAny_pure ⟨c, rfl, q⟩)
    refine wpAny_bind (wpAny_askSetting (wpAny_ite ?_))
    simp only [slot_ne.bind]
    split
    · exact wpAny_bind (wpAny_pure (wpAny_pure last))
    · exact wpAny_tryCatch (wpAny_bind (wpAny_pure (wpAny_pure last)))
  unfold richCompare
  simp only [PySem.oneThing_ref]
  refine wpAny_holding (wpAny_bind (wpAny_cRoomFor (Nat.lt_of_succ_lt hu) ?_))
  rw [cmpInfo_NotEq]
  dsimp only
  refine wpAny_bind (I.type.here (wpAny_bind (hb.here ?_)))
  have tail : wpAny (model prog w) A (tryCompare (.ref x) (Str.ofString "__ne__") b) (fun r s' => ∃ v, r = some v ∧ Q v s') E s :=
    wpAny_mono one (fun r s' ⟨c, e, q⟩ => ⟨_, e, q⟩) fun _ _ e => e
  split
  · rename_i q
    have e : PySem.W.subIn K tb (.ref C) = some false := by
      rcases Bool.or_eq_true_iff.mp hn with e | e
      · rw [beq_iff_eq.mp e] at q; simp at q
      · exact beq_iff_eq.mp e
    refine wpAny_bind ((PySem.W.looks_subIn KX e).here ?_)
    simp only [Bool.false_eq_true, if_false]
    refine wpAny_bind (wpAny_mono tail (fun r s' z => ?_) fun _ _ e => e)
    obtain ⟨v, rfl, hq⟩ := z
    exact wpAny_pure hq
  · refine wpAny_bind (wpAny_pure ?_)
    simp only [Bool.false_eq_true, if_false]
    refine wpAny_bind (wpAny_mono tail (fun r s' z => ?_) fun _ _ e => e)
    obtain ⟨v, rfl, hq⟩ := z
    exact wpAny_pure hq
end
end Own
namespace Own
open PySem PySem.Spec PyProof.Rows L2
section
variable {X : Cx} {CX : CXT} {k : Nat} {f f0 C : Addr} {fd : FuncData} {ps : List Str} {sp : Sp} {E : XK} {op : Operator}
/-- a call one step further in -/
theorem runIn {pins : List (Addr × Obj)} {σ : L2.St} {H : Hp} {s : Shared} {Q : VK} {us : List Value} {vs : List V} (F : FnOk X.prog X.w X.K X.mg X.base CX k f fd ps sp) (hr : Room (k + 1) X.A) (hb : Binds X.K fd ps []) (hx : Passes CX X E)
    (I : Inv X pins σ H s) (r : Vals vs us) (h : sp vs H Q E) : wpAny (model X.prog X.w) X.A.in1 (PySem.call (.ref f) us) (EP X pins σ Q) X.xe s := by
  have hl : us.length = ps.length := by rw [← r.length]; exact F.len _ _ _ _ h
  have hb' := hb s us I.kIn (by simpa using hl)
  rw [List.append_nil] at hb'
  refine wpAny_call (codeAny_mono (F.run X.A.in1 X.stack s H ⟨us, []⟩ us vs Q E hr.in1 I.env0.in1 hb' r h) fun r s' hq => ?_)
  cases r with
  | error e => exact hx pins σ H s e s' I hq
  | ok fl =>
    cases fl with
    | ret u => exact I.after hq
    | next => exact False.elim hq
    | brk => exact False.elim hq
    | cont => exact False.elim hq
structure BinR (K : PySem.W.Frag) (C f : Addr) (op : Operator) : Prop where
  first : PySem.W.selfFirst K C = true
  l : ∃ f0 : Addr, PySem.W.findIn K (.ref C) (PySem.dunder op.info.2) = some (some (.ref f0))
  at_ : PySem.W.findIn K (.ref C) (dunderR op.info.2) = some (some (.ref f))
  fn : PySem.W.isFn K (.ref f) = true
  sub : PySem.W.subIn K (.ref C) (.type "int") = some false
def rRight (C : Addr) (sp : Sp) (E : XK) : R2 := fun x y H Q => ∃ i a dx fs, x = .int i ∧ y = .ref a ∧ H a = some (.ins C dx fs) ∧ sp [.ref a, .int i] H Q E
theorem opR_of {id : String} {B : Builtin} (hfill : fillsNumberSlot (.type "int") op.info.2 = pure true) (slot : Slot "int" (PySem.dunder op.info.2) id) (entry : entryFor table id = some B) (args : ∀ a b : Value, argsOk id ⟨[a, b], []⟩)
    (decl : ∀ {prog : Program} {w : World} {A : Around} {E : Value → Shared → Prop} {s : Shared} {x C dx : Addr} {i : Int} {t : Tok} {Q : Shared → Prop}, s.heap.get? x = some (PySem.W.instObj C dx) → Q s →
      wpAny (model prog w) A (B ⟨[.int i t, .ref x], []⟩) (fun fin s' => ∃ v, fin = .done (.ret v) ∧ v = .notImplemented ∧ Q s') E s)
    (F : FnOk X.prog X.w X.K X.mg X.base CX k f fd ps sp) (hr : Room k X.A) (Z : BinR X.K C f op) (hb : Binds X.K fd ps []) (hx : Passes CX X E) : OpR X (binaryOp op) (rRight C sp E) := by
  rintro pins s σ H x y u v Q I rx ry ⟨i, a, dx, fs, rfl, rfl, ha, q⟩
  obtain ⟨t, rfl⟩ := (show ∃ t, u = Value.int i t from rx)
  cases ry
  obtain ⟨od, J⟩ := inst I ha
  obtain ⟨z1, ⟨f0, z2⟩, z3, z4, z5⟩ := Z
  exact binR I.kIn J z1 z2 z3 z4 z5 hfill slot (wpAny_call_entry slot (typeIs_int s i t) entry (wpAny_mono (decl (Q := fun s' => s'.heap = s.heap ∧ s'.gens = s.gens ∧ s'.drawn = s.drawn ∧ s'.os = s.os ∧ s'.toks = s.toks) J.at_ ⟨rfl, rfl, rfl, rfl, rfl⟩) (fun fin s' ⟨v, e, q⟩ => ⟨v, e, q⟩) fun _ _ e => e) (args _ _))
    (back (run2 (x := .ref a) (y := .int i) F hr hb hx I rfl ⟨t, rfl⟩ q))
theorem opRadd (F : FnOk X.prog X.w X.K X.mg X.base CX k f fd ps sp) (hr : Room k X.A) (Z : BinR X.K C f .Add) (hb : Binds X.K fd ps []) (hx : Passes CX X E) : OpR X (binaryOp .Add) (rRight C sp E) :=
  opR_of PySem.F.fills_int_add PySem.F.slot_int_add PySem.F.entry_int_add PySem.F.args_int_add_2 decl_add F hr Z hb hx
theorem opRsub (F : FnOk X.prog X.w X.K X.mg X.base CX k f fd ps sp) (hr : Room k X.A) (Z : BinR X.K C f .Sub) (hb : Binds X.K fd ps []) (hx : Passes CX X E) : OpR X (binaryOp .Sub) (rRight C sp E) :=
  opR_of PySem.F.fills_int_sub PySem.F.slot_int_sub PySem.F.entry_int_sub PySem.F.args_int_sub_2 decl_sub F hr Z hb hx
theorem opRmul (F : FnOk X.prog X.w X.K X.mg X.base CX k f fd ps sp) (hr : Room k X.A) (Z : BinR X.K C f .Mult) (hb : Binds X.K fd ps []) (hx : Passes CX X E) : OpR X (binaryOp .Mult) (rRight C sp E) :=
  opR_of PySem.F.fills_int_mul PySem.F.slot_int_mul PySem.F.entry_int_mul PySem.F.args_int_mul_2 decl_mul F hr Z hb hx
structure Ne (K : PySem.W.Frag) (C f : Addr) : Prop where
  ne : PySem.W.findIn K (.ref C) "__ne__" = some (some (.builtin "object.__ne__"))
  eq : PySem.W.findIn K (.ref C) "__eq__" = some (some (.ref f))
  fn : PySem.W.isFn K (.ref f) = true
  ob : PySem.W.subIn K (.ref C) (.type "object") = some true
def rNeOwn (K : PySem.W.Frag) (C : Addr) (sp : Sp) (E : XK) : R2 := fun x y H Q => ∃ a dx fs t, x = .ref a ∧ H a = some (.ins C dx fs) ∧ TyX K H y t ∧ PySem.W.notFirst K C t = true ∧ sp [.ref a, y] H (fun v H' => ∃ b, v = .bl b ∧ Q (.bl (!b)) H') E
theorem ne (F : FnOk X.prog X.w X.K X.mg X.base CX k f fd ps sp) (hr : Room (k + 1) X.A) (Z : Ne X.K C f) (hb : Binds X.K fd ps []) (hx : Passes CX X E) : OpR X (compareOp .NotEq) (rNeOwn X.K C sp E) := by
  rintro pins s σ H x y u v Q I rx ry ⟨a, dx, fs, t, rfl, ha, ty, nf, q⟩
  cases rx
  obtain ⟨od, J⟩ := inst I ha
  have hu : X.A.units + 1 < cLine := hu_of hr
  exact ne_K hu I.kIn J (typed I ry ty) nf Z.ne Z.eq Z.fn Z.ob (wpAny_mono (runIn (us := [.ref a, v]) (vs := [.ref a, y]) F hr hb hx I (.cons rfl (.cons ry .nil)) q) (fun r s' hq => by
    obtain ⟨z, H', I', rz, b, rfl, q'⟩ := hq
    cases rz
    exact ⟨b, rfl, .bl (!b), H', I', rfl, q'⟩) fun _ _ e => e)
/-- len(o) by the own __len__ -/
theorem len (F : FnOk X.prog X.w X.K X.mg X.base CX k f fd ps sp) (hr : Room (k + 1) X.A) (B : Sp1 X.K C "__len__" f) (hb : Binds X.K fd ps []) (hx : Passes CX X E) :
    CallR X (.builtin "len") (fun xs H Q => ∃ a dx fs, xs = [.ref a] ∧ H a = some (.ins C dx fs) ∧ sp [.ref a] H (fun v H' => ∃ n, v = .int n ∧ 0 ≤ n ∧ n < 2 ^ 63 ∧ Q (.int n) H') E) := by
  rintro pins s σ H xs us Q I rs ⟨a, dx, fs, rfl, ha, q⟩
  cases rs with
  | cons r rest =>
    cases rest
    cases r
    obtain ⟨od, J⟩ := inst I ha
    obtain ⟨m, hF⟩ := I.fr
    refine PySem.W.len_K hF I.ok.mod.kin J B.at_ B.fn (wpAny_mono (runIn (us := [.ref a]) (vs := [.ref a]) F hr hb hx I (.cons rfl .nil) q) (fun r s' hq => ?_) fun _ _ e => e)
    obtain ⟨z, H', I', rz, n, rfl, h0, h1, q'⟩ := hq
    obtain ⟨t, rfl⟩ := (show ∃ t, r = Value.int n t from rz)
    exact ⟨⟨h0, h1⟩, .int n, H', I'.tok _, ⟨_, rfl⟩, q'⟩
end
theorem fnR_of {P : Program} {w : World} {K : PySem.W.Frag} {mg : Str → Option Value} {base : Heap} {CX : CXT} {k : Nat} {f : Addr} {fd : FuncData} {ps : List Str} {sp : Sp} (F : FnOk P w K mg base CX k f fd ps sp) (hb : Binds K fd ps []) : FnR P w K mg base CX k f sp := by
  intro A outer s H us vs Q E hr e0 r h
  have KX : K.In s.heap := e0.mod.kin.keeps fun b o e => (e0.bs b o e).1
  have hl : us.length = ps.length := by rw [← r.length]; exact F.len _ _ _ _ h
  have hb' := hb s us KX (by simpa using hl)
  rw [List.append_nil] at hb'
  exact F.run A outer s H ⟨us, []⟩ us vs Q E hr e0 hb' r h
def rIop (C : Addr) (sp : Sp) (E : XK) : R2 := fun x y H Q => ∃ a dx fs, x = .ref a ∧ H a = some (.ins C dx fs) ∧ sp [.ref a, y] H Q E
theorem pip {X : Cx} {C : Addr} {sp : Sp} {E : XK} {op : Operator} (h : OpR X (inplaceOp op) (fun x y H Q => ∃ a dx fs, x = .ref a ∧ H a = some (.ins C dx fs) ∧ sp [.ref a, y] H Q E)) : PIp X op (rIop C sp E) :=
  fun pins s σ H x y v u Q I rx ry q => h pins s σ H x y v u Q I rx ry q
theorem iop2 {H : Hp} {Q : VK} {C a dx : Addr} {sp : Sp} {E : XK} {fs : List (Str × V)} {y : V} (ha : H a = some (.ins C dx fs)) (h : sp [.ref a, y] H Q E) : rIop C sp E (.ref a) y H Q := ⟨a, dx, fs, rfl, ha, h⟩
/-- f(e, ..), f an expression that gives an instance of C: the reading speaks of the heap alone -/
def tCallI (C : Addr) (sp : Sp) (E : XK) (tf : TE) (t : TA) : TE := fun σ H Q => tf σ H fun y H1 => ∃ a, y = V.ref a ∧ t σ H1 fun vs H2 => (∃ dx fs, H2 a = some (.ins C dx fs)) ∧ sp (V.ref a :: vs) H2 Q E
theorem pe_callI {X : Cx} {CX : CXT} {k : Nat} {g C : Addr} {sp : Sp} {E : XK} {fe e : Expr} {es : List Expr} {tf : TE} {t : TA} {pos : Pos} (hf : PE X fe tf) (c : StX.CallO X.K C g) (F : FnR X.prog X.w X.K X.mg X.base CX k g sp) (hr : Room k X.A) (hx : Passes CX X E) (ha : PA X (e :: es) t)
    (ht : eval (.Call fe (e :: es) [] pos) X.env = (do callWith pos (← eval fe X.env) [] (backTo pos (starEach (e :: es) X.env)) (backToKw pos (keywordEach [] X.env))) := by rfl)
    (he : starEach (e :: es) X.env = (false, eval e X.env) :: starEach es X.env := by rfl) (hpl : (backTo pos (starEach es X.env)).any (·.1) = false := by rfl) : PE X (.Call fe (e :: es) [] pos) (tCallI C sp E tf t) := by
  refine ⟨fun pins s σ H Q I h => Call_ (thn (hf.run pins s σ H _ I h) fun u s1 z => ?_) ht⟩
  obtain ⟨y, H1, I1, ry, a, rfl, q⟩ := z
  cases ry
  refine StX.callO_with (thn (ha.run pos pins s1 σ H1 _ I1 q) fun us s2 z2 => ?_) he hpl
  obtain ⟨vs, H2, I2, r, hi, q2⟩ := z2
  obtain ⟨od, J⟩ : ∃ od, PySem.W.InstAt s2.heap a (PySem.W.instObj C hi.choose) C od := inst I2 hi.choose_spec.choose_spec
  exact ⟨⟨C, _, od, J, rfl⟩, StX.run_callO c F hr hx I2 (.inr hi) r q2⟩
section
variable {σ : L2.St} {H : Hp} {Q : VK} {C : Addr} {sp : Sp} {E : XK}
theorem opS2 {a b dx dy : Addr} {fs gs : List (Str × V)} (ha : H a = some (.ins C dx fs)) (hb : H b = some (.ins C dy gs)) (h : sp [.ref a, .ref b] H Q E) : rSame C sp E (.ref a) (.ref b) H Q := ⟨a, b, dx, dy, fs, gs, rfl, rfl, ha, hb, h⟩
theorem opT2 {a dx : Addr} {fs : List (Str × V)} {T : String} {y : V} (ha : H a = some (.ins C dx fs)) (ty : ∀ u, RelV y u → typeOf u = pure (.type T)) (h : sp [.ref a, y] H Q E) : rLeft C T sp E (.ref a) y H Q := ⟨a, dx, fs, rfl, ha, ty, h⟩
theorem opR2 {a dx : Addr} {fs : List (Str × V)} {i : Int} (ha : H a = some (.ins C dx fs)) (h : sp [.ref a, .int i] H Q E) : rRight C sp E (.int i) (.ref a) H Q := ⟨i, a, dx, fs, rfl, rfl, ha, h⟩
theorem neg2 {a dx : Addr} {fs : List (Str × V)} (ha : H a = some (.ins C dx fs)) (h : sp [.ref a] H Q E) : rOne C sp E (.ref a) H Q := ⟨a, dx, fs, rfl, ha, h⟩
theorem cmp2 {K : PySem.W.Frag} {a dx : Addr} {fs : List (Str × V)} {y : V} {t : Value} (ha : H a = some (.ins C dx fs)) (ty : TyX K H y t) (nf : PySem.W.notFirst K C t = true) (h : sp [.ref a, y] H Q E) : rCmp K C sp E (.ref a) y H Q := ⟨a, dx, fs, t, rfl, ha, ty, nf, h⟩
theorem ne2 {K : PySem.W.Frag} {a dx : Addr} {fs : List (Str × V)} {y : V} {t : Value} (ha : H a = some (.ins C dx fs)) (ty : TyX K H y t) (nf : PySem.W.notFirst K C t = true) (h : sp [.ref a, y] H (fun v H' => ∃ b, v = .bl b ∧ Q (.bl (!b)) H') E) : rNeOwn K C sp E (.ref a) y H Q := ⟨a, dx, fs, t, rfl, ha, ty, nf, h⟩
theorem callI {tf : TE} {t : TA} (h : tf σ H fun y H1 => ∃ a, y = V.ref a ∧ t σ H1 fun vs H2 => (∃ dx fs, H2 a = some (.ins C dx fs)) ∧ sp (V.ref a :: vs) H2 Q E) : tCallI C sp E tf t σ H Q := h
theorem ty_int {i : Int} : ∀ u, RelV (.int i) u → typeOf u = pure (.type "int") := by
  rintro u ⟨t, rfl⟩
  rfl
end
end Own
/-! ## lists made of lists, and what == says of ints -/
namespace Rd
open PySem PySem.Spec PyProof.Rows L2
theorem lc {wi : TI} {g : TG} {tt : TT} {te : TE} {vs : List Nat} {σ : L2.St} {H : Hp} {Q : VK} (h : wi σ H fun J H1 => ∀ D, H1 D = none → ∃ W : Nat → Nat → Hp → Prop, (∃ m, W 0 m (upd H1 D (.lst []))) ∧ ∀ i m H, W i m H →
    (J.stop i H ∧ Q (.ref D) H) ∨ (J.go i H ∧ ∃ Nx : Hp → Prop, (∀ H', Nx H' → ∃ m', m' < m ∧ W (i + 1) m' H') ∧ ∀ x H', J.yld i H x H' → g x (wipe σ vs) H' fun σ2 H2 => wipe σ2 vs = wipe σ vs ∧ tt σ2 H2 fun b H3 =>
      if b = true then te σ2 H3 fun y H4 => ∃ acc, H4 D = some (.lst acc) ∧ acc.length < sizeLine ∧ Nx (upd H4 D (.lst (acc ++ [y]))) else Nx H3)) : tLc wi g tt te vs σ H Q := h
theorem il {K : PySem.W.Frag} {tl : TE} {σ : L2.St} {H : Hp} {R : It → Hp → Prop} (h : tl σ H fun x H1 => ∃ a, x = .ref a ∧ (∃ xs, SqL K H1 a xs) ∧ R (Itl K a) H1) : iList K tl σ H R := h
theorem same_upd {H H' : Hp} {D : Addr} {o : HO} (hD : H D = none) (S : Same H H') : Same H (upd H' D o) := fun b u e => by
  rw [upd_ne (ne_of_none e hD)]
  exact S b u e
/-- [e for x in l]: the items' images, where e makes the image and leaves what was tracked -/
theorem lcMap {α : Type} {items : List α} {inj res : α → V} {K : PySem.W.Frag} {a : Addr} {i : Nat} {te : TE} {vs : List Nat} {σ : L2.St} {H : Hp} {Q : VK} (hs : SqL K H a (items.map inj)) (hn : items.length ≤ 1000)
    (hw : ∀ x, wipe ((wipe σ vs).set i (some x)) vs = wipe σ vs)
    (elem : ∀ x ∈ items, ∀ H', Same H H' → ∀ R : VK, (∀ H'', Same H' H'' → R (res x) H'') → te ((wipe σ vs).set i (some (inj x))) H' R)
    (k : ∀ (p : Addr) (H' : Hp), H p = none → Same H H' → H' p = some (.lst (items.map res)) → Q (.ref p) H') :
    (∃ xs, SqL K H a xs) ∧ ∀ D, H D = none → ∃ W : Nat → Nat → Hp → Prop, (∃ m, W 0 m (upd H D (.lst []))) ∧ ∀ t m H, W t m H →
      ((Itl K a).stop t H ∧ Q (.ref D) H) ∨ ((Itl K a).go t H ∧ ∃ Nx : Hp → Prop, (∀ H', Nx H' → ∃ m', m' < m ∧ W (t + 1) m' H') ∧ ∀ x H', (Itl K a).yld t H x H' → (gName i) x (wipe σ vs) H' fun σ2 H2 => wipe σ2 vs = wipe σ vs ∧ tYes σ2 H2 fun b H3 =>
        if b = true then te σ2 H3 fun y H4 => ∃ acc, H4 D = some (.lst acc) ∧ acc.length < sizeLine ∧ Nx (upd H4 D (.lst (acc ++ [y]))) else Nx H3) := by
  refine ⟨⟨_, hs⟩, fun D hD => lc_list (xs := items.map inj) (fun t H' => Same H H' ∧ H' D = some (.lst ((items.take t).map res))) ⟨same_upd hD (Same.refl _), upd_same⟩ (fun t H' _ p => p.1.seq hs) (fun t x H' hx p => ?_) (fun H' p => ?_)⟩
  · obtain ⟨S, hl⟩ := p
    rw [List.getElem?_map] at hx
    cases e : items[t]? with
    | none => rw [e] at hx; cases hx
    | some y =>
      rw [e] at hx
      cases hx
      have hy : y ∈ items := List.mem_of_getElem? e
      have ht : t < items.length := (List.getElem?_eq_some_iff.mp e).1
      refine ⟨hw _, iteT (B := Same H H' ∧ H' D = some (.lst ((items.take (t + 1)).map res))) rfl (elem y hy H' S _ fun H'' S' => ⟨_, S' _ _ hl, ?_, ?_, ?_⟩)⟩
      · rw [List.length_map, List.length_take]
        exact small1000 (by omega)
      · exact same_upd hD (S.trans S')
      · rw [upd_same, List.take_add_one, e]
        simp
  · obtain ⟨S, hl⟩ := p
    rw [List.length_map, List.take_length] at hl
    exact k D H' hD S hl
theorem lcMapI {ns : List Int} {g : Int → Int} {K : PySem.W.Frag} {a : Addr} {i : Nat} {te : TE} {vs : List Nat} {σ : L2.St} {H : Hp} {Q : VK} (hs : SqL K H a (ns.map V.int)) (hn : ns.length ≤ 1000)
    (hw : ∀ x, wipe ((wipe σ vs).set i (some x)) vs = wipe σ vs)
    (elem : ∀ x ∈ ns, ∀ H', Same H H' → ∀ R : VK, (∀ H'', Same H' H'' → R (.int (g x)) H'') → te ((wipe σ vs).set i (some (.int x))) H' R)
    (k : ∀ (p : Addr) (H' : Hp), H p = none → Same H H' → H' p = some (.lst ((ns.map g).map V.int)) → Q (.ref p) H') :
    (∃ xs, SqL K H a xs) ∧ ∀ D, H D = none → ∃ W : Nat → Nat → Hp → Prop, (∃ m, W 0 m (upd H D (.lst []))) ∧ ∀ t m H, W t m H →
      ((Itl K a).stop t H ∧ Q (.ref D) H) ∨ ((Itl K a).go t H ∧ ∃ Nx : Hp → Prop, (∀ H', Nx H' → ∃ m', m' < m ∧ W (t + 1) m' H') ∧ ∀ x H', (Itl K a).yld t H x H' → (gName i) x (wipe σ vs) H' fun σ2 H2 => wipe σ2 vs = wipe σ vs ∧ tYes σ2 H2 fun b H3 =>
        if b = true then te σ2 H3 fun y H4 => ∃ acc, H4 D = some (.lst acc) ∧ acc.length < sizeLine ∧ Nx (upd H4 D (.lst (acc ++ [y]))) else Nx H3) :=
  lcMap (inj := V.int) (res := fun x => .int (g x)) hs hn hw elem fun p H' hp S h => k p H' hp S (by rw [List.map_map]; exact h)
theorem lcVarI {ns : List Int} {g : Int → Int} {K : PySem.W.Frag} {a : Addr} {i j : Nat} {te : TE} {vs : List Nat} {σ : L2.St} {H : Hp} {Q : VK} (ej : σ[j]? = some (some (.ref a))) (hs : SqL K H a (ns.map V.int)) (hn : ns.length ≤ 1000)
    (hw : ∀ x, wipe ((wipe σ vs).set i (some x)) vs = wipe σ vs)
    (elem : ∀ x ∈ ns, ∀ H', Same H H' → ∀ R : VK, (∀ H'', Same H' H'' → R (.int (g x)) H'') → te ((wipe σ vs).set i (some (.int x))) H' R)
    (k : ∀ (p : Addr) (H' : Hp), H p = none → Same H H' → H' p = some (.lst ((ns.map g).map V.int)) → Q (.ref p) H') : tLc (iList K (tVar j)) (gName i) tYes te vs σ H Q :=
  lc (il ⟨_, ej, _, rfl, lcMapI hs hn hw elem k⟩)
/-- [e for x in l if t] where t never holds: a new empty list -/
theorem lcNone {items : List V} {K : PySem.W.Frag} {a : Addr} {i j : Nat} {te : TE} {tt : TT} {vs : List Nat} {σ : L2.St} {H : Hp} {Q : VK} (ej : σ[j]? = some (some (.ref a))) (hs : SqL K H a items)
    (hw : ∀ x, wipe ((wipe σ vs).set i (some x)) vs = wipe σ vs)
    (test : ∀ x ∈ items, ∀ H', Same H H' → ∀ R : Bool → Hp → Prop, (∀ H'', Same H' H'' → R false H'') → tt ((wipe σ vs).set i (some x)) H' R)
    (k : ∀ (p : Addr) (H' : Hp), H p = none → Same H H' → H' p = some (.lst []) → Q (.ref p) H') : tLc (iList K (tVar j)) (gName i) tt te vs σ H Q := by
  refine lc (il ⟨_, ej, _, rfl, ⟨_, hs⟩, fun D hD => lc_list (xs := items) (fun _ H' => Same H H' ∧ H' D = some (.lst [])) ⟨same_upd hD (Same.refl _), upd_same⟩ (fun t H' _ p => p.1.seq hs) (fun t x H' hx p => ?_) (fun H' p => k D H' hD p.1 p.2)⟩)
  obtain ⟨S, hl⟩ := p
  refine ⟨hw _, test x (List.mem_of_getElem? hx) H' S _ fun H'' S' => ?_⟩
  exact iteF (A := te _ H'' _) rfl ⟨S.trans S', S' _ _ hl⟩
theorem mulB {a n : Int} {A B : Nat} (ha : a.natAbs < 2 ^ A) (hn : n.natAbs < 2 ^ B) : -(2 ^ (A + B)) < a * n ∧ a * n < 2 ^ (A + B) := by
  have h := wide_lt ha hn
  have e : ((2 ^ (A + B) : Nat) : Int) = (2 : Int) ^ (A + B) := by simp
  rw [← e]
  omega
theorem dp_ints {K : PySem.W.Frag} {H : Hp} : ∀ ns : List Int, DpAll K H (ns.map V.int) (ns.map PyData.int)
  | [] => .nil
  | _ :: r => .cons (.int _) (dp_ints r)
theorem dp_listI {K : PySem.W.Frag} {H : Hp} {a : Addr} {ns : List Int} (h : SqL K H a (ns.map V.int)) : Dp K H (.ref a) (.list (ns.map PyData.int)) := .lst h (dp_ints ns)
theorem can_ints : ∀ ns : List Int, PyData.canLayAll0 (ns.map PyData.int) = true
  | [] => by simp [PyData.canLayAll0]
  | _ :: r => by simp only [List.map_cons, PyData.canLayAll0, PyData.canLay0, can_ints r, Bool.and_self]
theorem dep_ints : ∀ ns : List Int, PyData.depthAll (ns.map PyData.int) = 0
  | [] => by simp [PyData.depthAll]
  | _ :: r => by simp only [List.map_cons, PyData.depthAll, PyData.depth, dep_ints r, Nat.max_self]
theorem shaped_listI (ns : List Int) : SeqAt.shaped (.list (ns.map PyData.int)) = true := by
  simp only [SeqAt.shaped, PyData.canLay0, can_ints, PyData.depth, dep_ints]
  decide
theorem eqvAll_ints : ∀ ns ms : List Int, PyData.eqvAll (ns.map PyData.int) (ms.map PyData.int) = decide (ns = ms)
  | [], [] => by simp [PyData.eqvAll]
  | [], _ :: _ => by simp [PyData.eqvAll]
  | _ :: _, [] => by simp [PyData.eqvAll]
  | x :: r, y :: q => by
    simp only [List.map_cons, PyData.eqvAll, PyData.eqv, eqvAll_ints r q]
    by_cases h : x = y
    · subst h; simp
    · simp [h]
theorem eqv_listI (ns ms : List Int) : PyData.eqv (.list (ns.map PyData.int)) (.list (ms.map PyData.int)) = decide (ns = ms) := by
  simp only [PyData.eqv, eqvAll_ints]
theorem eqv_pair (a b c d : Int) : PyData.eqv (.tuple [.int a, .int b]) (.tuple [.int c, .int d]) = (a == c && b == d) := by
  simp [PyData.eqv, PyData.eqvAll]
theorem eqv_pairV (a b c d : Int) : PyData.eqv (.tuple [.int a, .int b]) (.tuple [.int c, .int d]) = (decide (V.int a = .int c) && decide (V.int b = .int d)) := by
  simp only [PyData.eqv, PyData.eqvAll, Bool.and_true, V.int.injEq]
  rw [Bool.eq_iff_iff]
  simp
theorem dp_pair {K : PySem.W.Frag} {H : Hp} {p : Addr} {a b : Int} (h : SqT K H p [.int a, .int b]) : Dp K H (.ref p) (.tuple [.int a, .int b]) := .tup h (.cons (.int _) (.cons (.int _) .nil))
theorem shaped_pair (a b : Int) : SeqAt.shaped (.tuple [.int a, .int b]) = true := by
  simp only [SeqAt.shaped, PyData.canLay0, PyData.canLayAll0, PyData.depth, PyData.depthAll]
  rfl
theorem isi {X : Cx} {K : PySem.W.Frag} (e : X.K = K) : CallR X (.builtin "isinstance") (rIsi K) := e ▸ call_isi
theorem dp_nil {K : PySem.W.Frag} {H : Hp} {p : Addr} (h : SqL K H p []) : Dp K H (.ref p) (.list []) := .lst h .nil
theorem eqv_nil : PyData.eqv (.list []) (.list []) = true := by simp [PyData.eqv, PyData.eqvAll]
theorem shaped_nil : SeqAt.shaped (.list []) = true := by
  simp only [SeqAt.shaped, PyData.canLay0, PyData.canLayAll0, PyData.depth, PyData.depthAll]
  rfl
/-- an item of a written list of ints at a drawn place -/
theorem pick {ns : List Int} {lo hi : Int} {K : PySem.W.Frag} {H : Hp} {a : Addr} {xs : List V} {d : Int} {Q : VK} (hm : ∀ n ∈ ns, lo ≤ n ∧ n ≤ hi) (e : SqL K H a xs) (eq : xs = ns.map V.int) (h0 : 0 ≤ d) (h1 : d < (ns.length : Int))
    (h : ∀ n : Int, n ∈ ns → lo ≤ n → n ≤ hi → Q (.int n) H) : rIxL K (.ref a) (.int d) H Q := by
  subst eq
  obtain ⟨j, rfl⟩ : ∃ j : Nat, d = (j : Int) := ⟨d.toNat, by omega⟩
  have hj : j < ns.length := by omega
  have hn : ns[j] ∈ ns := List.getElem_mem hj
  exact ⟨a, _, _, .int ns[j], rfl, rfl, e, atI_nat (by rw [List.getElem?_map, List.getElem?_eq_getElem hj]; rfl), h _ hn (hm _ hn).1 (hm _ hn).2⟩
theorem sgn {d n B : Int} (h0 : 0 ≤ d) (h1 : d < B) (m : n ∈ [(1 : Int), -1]) : -B < d * n ∧ d * n < B := by
  simp only [List.mem_cons, List.not_mem_nil, or_false] at m
  rcases m with rfl | rfl <;> omega
end Rd
/-! ## an object of a built-in type without the number's slot, left of an own instance -/
namespace Own
open PySem PySem.Spec PyProof.Rows
section
variable {prog : Program} {w : World} {A : Around} {E : Value → Shared → Prop} {s : Shared} {K : PySem.W.Frag} {x C dx f f0 : Addr} {od : Option Obj} {op : Operator} {T : String}
theorem binR0 {a : Value} {Q : Value → Shared → Prop} (KX : K.In s.heap) (I : PySem.W.InstAt s.heap x (PySem.W.instObj C dx) C od) (hc : PySem.W.selfFirst K C = true) (ta : PySem.W.Looks (model prog w) s.heap (typeOf a) (.type T))
    (h0 : PySem.W.findIn K (.ref C) (PySem.dunder op.info.2) = some (some (.ref f0))) (h1 : PySem.W.findIn K (.ref C) (dunderR op.info.2) = some (some (.ref f))) (hf : PySem.W.isFn K (.ref f) = true)
    (hfill : PySem.W.Looks (model prog w) s.heap (fillsNumberSlot (.type T) op.info.2) false)
    (h : wpAny (model prog w) A (call (.ref f) [.ref x, a]) (PySem.W.CmpBack Q) E s) : wpAny (model prog w) A (binaryOp op a (.ref x)) Q E s := by
  obtain ⟨cd, rest, hcd, hm⟩ := PySem.W.ksp_first hc
  rcases hi : op.info with ⟨sym, nm⟩
  rw [hi] at h0 h1 hfill
  dsimp only at h0 h1 hfill
  have two := PySem.W.ksp_try KX I h1 hf h
  obtain ⟨hh, g, d, tt, os⟩ := s
  have L1 : PySem.W.Looks (model prog w) hh (typeOf (.ref x)) (.ref C) := I.type
  have L3 : PySem.W.Looks (model prog w) hh (fillsNumberSlot (.ref C) nm) true := PySem.W.fills_K KX hcd hm h0
  have nc : (Value.type T == Value.ref C) = false := Bool.eq_false_iff.mpr fun q => nomatch beq_iff_eq.mp q
  simp only [binaryOp, hi]
  refine wpAny_holding (wpAny_bind (?_ : _))
  unfold binaryOp1
  refine wpAny_bind (ta.at (wpAny_bind (L1.at (wpAny_bind (hfill.at ?_)))))
  simp only [nc, Bool.false_eq_true, if_false]
  refine wpAny_bind (L3.at (?_ : _))
  simp only [Bool.false_and, Bool.false_eq_true, if_false, pure_bind, Bool.not_false, Bool.and_self, if_true]
  refine wpAny_bind (wpAny_mono two (fun r s' q => ?_) fun _ _ e => e)
  obtain ⟨v, rfl, q⟩ := q
  exact wpAny_bind (wpAny_rule (wpAny_pure (wpAny_pure q)))
end
end Own
namespace Own
open PySem PySem.Spec PyProof.Rows L2
section
variable {prog : Program} {w : World} {A : Around} {E : Value → Shared → Prop} {s : Shared} {K : PySem.W.Frag} {x C dx f f0 : Addr} {od : Option Obj} {op : Operator} {T : String}
theorem binT0 {b : Value} {Q : Value → Shared → Prop} (KX : K.In s.heap) (I : PySem.W.InstAt s.heap x (PySem.W.instObj C dx) C od) (hc : PySem.W.selfFirst K C = true) (tb : PySem.W.Looks (model prog w) s.heap (typeOf b) (.type T))
    (h0 : PySem.W.findIn K (.ref C) (PySem.dunder op.info.2) = some (some (.ref f))) (hf : PySem.W.isFn K (.ref f) = true) (hfill : PySem.W.Looks (model prog w) s.heap (fillsNumberSlot (.type T) op.info.2) false)
    (h : wpAny (model prog w) A (call (.ref f) [.ref x, b]) (PySem.W.CmpBack Q) E s) : wpAny (model prog w) A (binaryOp op (.ref x) b) Q E s := by
  obtain ⟨cd, rest, hcd, hm⟩ := PySem.W.ksp_first hc
  rcases hi : op.info with ⟨sym, nm⟩
  rw [hi] at h0 hfill
  dsimp only at h0 hfill
  have one := PySem.W.ksp_try KX I h0 hf h
  obtain ⟨hh, g, d, tt, os⟩ := s
  have L1 : PySem.W.Looks (model prog w) hh (typeOf (.ref x)) (.ref C) := I.type
  have L3 : PySem.W.Looks (model prog w) hh (fillsNumberSlot (.ref C) nm) true := PySem.W.fills_K KX hcd hm h0
  have nc : (Value.ref C == Value.type T) = false := Bool.eq_false_iff.mpr fun q => nomatch beq_iff_eq.mp q
  simp only [binaryOp, hi]
  refine wpAny_holding (wpAny_bind (?_ : _))
  unfold binaryOp1
  refine wpAny_bind (L1.at (wpAny_bind (tb.at (wpAny_bind (L3.at (?_ : _))))))
  simp only [nc, Bool.false_eq_true, if_false]
  refine wpAny_bind (hfill.at (?_ : _))
  simp only [Bool.and_false, Bool.false_and, Bool.false_eq_true, if_false, pure_bind, Bool.not_false, Bool.and_self, if_true]
  refine wpAny_bind (wpAny_mono one (fun r s' q => ?_) fun _ _ e => e)
  obtain ⟨v, rfl, q⟩ := q
  exact wpAny_pure (wpAny_pure q)
end
section
variable {X : Cx} {CX : CXT} {k : Nat} {f C : Addr} {fd : FuncData} {ps : List Str} {sp : Sp} {E : XK} {op : Operator} {Ts : List String}
/-- built-in types that have no number's slot -/
structure NoSlot (K : PySem.W.Frag) (op : Operator) (T : String) : Prop where
  l : ∃ fo ro, PySem.W.findIn K (.type T) (PySem.dunder op.info.2) = some fo ∧ PySem.W.findIn K (.type T) (dunderR op.info.2) = some ro ∧ ((fo.isSome && !isSeqSlot fo) || (ro.isSome && !isSeqSlot ro)) = false
theorem NoSlot.fills {K : PySem.W.Frag} {T : String} {M : Model} {h : Heap} (Z : NoSlot K op T) (KX : K.In h) : PySem.W.Looks M h (fillsNumberSlot (.type T) op.info.2) false := by
  obtain ⟨fo, ro, h1, h2, e⟩ := Z.l
  have z := PySem.W.ksp_fillsT (M := M) KX h1 h2
  rw [e] at z
  exact z
/-- any object of such a type left of an own instance: the reflected operator is asked -/
def rOddL (K : PySem.W.Frag) (C : Addr) (Ts : List String) (sp : Sp) (E : XK) : R2 := fun x y H Q => ∃ a dx fs T, y = .ref a ∧ H a = some (.ins C dx fs) ∧ T ∈ Ts ∧ TyX K H x (.type T) ∧ sp [.ref a, x] H Q E
theorem opL0 (F : FnOk X.prog X.w X.K X.mg X.base CX k f fd ps sp) (hr : Room k X.A) (Z : BinR X.K C f op) (N : ∀ T ∈ Ts, NoSlot X.K op T) (hb : Binds X.K fd ps []) (hx : Passes CX X E) : OpR X (binaryOp op) (rOddL X.K C Ts sp E) := by
  rintro pins s σ H x y u v Q I rx ry ⟨a, dx, fs, T, rfl, ha, hT, ty, q⟩
  cases ry
  obtain ⟨od, J⟩ := inst I ha
  obtain ⟨z1, ⟨f0, z2⟩, z3, z4, z5⟩ := Z
  exact binR0 I.kIn J z1 (typed I rx ty) z2 z3 z4 ((N T hT).fills I.kIn) (back (run2 (x := .ref a) F hr hb hx I rfl rx q))
/-- any object of such a type right of an own instance -/
def rOddR (K : PySem.W.Frag) (C : Addr) (Ts : List String) (sp : Sp) (E : XK) : R2 := fun x y H Q => ∃ a dx fs T, x = .ref a ∧ H a = some (.ins C dx fs) ∧ T ∈ Ts ∧ TyX K H y (.type T) ∧ sp [.ref a, y] H Q E
theorem opR0 (F : FnOk X.prog X.w X.K X.mg X.base CX k f fd ps sp) (hr : Room k X.A) (B : Bin X.K C f op) (N : ∀ T ∈ Ts, NoSlot X.K op T) (hb : Binds X.K fd ps []) (hx : Passes CX X E) : OpR X (binaryOp op) (rOddR X.K C Ts sp E) := by
  rintro pins s σ H x y u v Q I rx ry ⟨a, dx, fs, T, rfl, ha, hT, ty, q⟩
  cases rx
  obtain ⟨od, J⟩ := inst I ha
  exact binT0 I.kIn J B.first (typed I ry ty) B.at_ B.fn ((N T hT).fills I.kIn) (back (run2 (x := .ref a) F hr hb hx I rfl ry q))
end
end Own
namespace Own
open PySem PySem.Spec PyProof.Rows
section
variable {prog : Program} {w : World} {A : Around} {E : Value → Shared → Prop} {s : Shared} {K : PySem.W.Frag} {x C dx f f0 : Addr} {od : Option Obj} {op : Operator} {id : String}
theorem declB_add {b : Bool} {Q : Shared → Prop} (h : s.heap.get? x = some (PySem.W.instObj C dx)) (hq : Q s) :
    wpAny (model prog w) A (Builtin.«int.__add__» ⟨[.bool b, .ref x], []⟩) (fun fin s' => ∃ v, fin = .done (.ret v) ∧ v = .notImplemented ∧ Q s') E s := by
  obtain ⟨hp, g, d, tk, os⟩ := s
  wp_walk using wpAny_load h
  exact ⟨_, rfl, rfl, hq⟩
theorem declB_sub {b : Bool} {Q : Shared → Prop} (h : s.heap.get? x = some (PySem.W.instObj C dx)) (hq : Q s) :
    wpAny (model prog w) A (Builtin.«int.__sub__» ⟨[.bool b, .ref x], []⟩) (fun fin s' => ∃ v, fin = .done (.ret v) ∧ v = .notImplemented ∧ Q s') E s := by
  obtain ⟨hp, g, d, tk, os⟩ := s
  wp_walk using wpAny_load h
  exact ⟨_, rfl, rfl, hq⟩
theorem declB_mul {b : Bool} {Q : Shared → Prop} (h : s.heap.get? x = some (PySem.W.instObj C dx)) (hq : Q s) :
    wpAny (model prog w) A (Builtin.«int.__mul__» ⟨[.bool b, .ref x], []⟩) (fun fin s' => ∃ v, fin = .done (.ret v) ∧ v = .notImplemented ∧ Q s') E s := by
  obtain ⟨hp, g, d, tk, os⟩ := s
  wp_walk using wpAny_load h
  exact ⟨_, rfl, rfl, hq⟩
theorem slotB_add : Slot "bool" "__add__" "int.__add__" :=
  .of (T := "bool") (name := "__add__") (owner := "int") (n := "__add__") (by rw [typeLookup_type, builtinLookup_eq_fast]; kernel_rfl) (by decide +kernel) (by decide +kernel) (by decide +kernel) (.inl (by decide +kernel)) (by rw [isSubtype_type]; kernel_rfl)
theorem slotB_sub : Slot "bool" "__sub__" "int.__sub__" :=
  .of (T := "bool") (name := "__sub__") (owner := "int") (n := "__sub__") (by rw [typeLookup_type, builtinLookup_eq_fast]; kernel_rfl) (by decide +kernel) (by decide +kernel) (by decide +kernel) (.inl (by decide +kernel)) (by rw [isSubtype_type]; kernel_rfl)
theorem slotB_mul : Slot "bool" "__mul__" "int.__mul__" :=
  .of (T := "bool") (name := "__mul__") (owner := "int") (n := "__mul__") (by rw [typeLookup_type, builtinLookup_eq_fast]; kernel_rfl) (by decide +kernel) (by decide +kernel) (by decide +kernel) (.inl (by decide +kernel)) (by rw [isSubtype_type]; kernel_rfl)
end
end Own
namespace Own
open PySem PySem.Spec PyProof.Rows
section
variable {prog : Program} {w : World} {A : Around} {E : Value → Shared → Prop} {s : Shared} {K : PySem.W.Frag} {x C dx f f0 : Addr} {od : Option Obj} {op : Operator} {id : String}
/-- a truth declines an operator beside an instance, then the instance's reflected one is asked -/
theorem binRB {p : Bool} {Q : Value → Shared → Prop} (KX : K.In s.heap) (I : PySem.W.InstAt s.heap x (PySem.W.instObj C dx) C od) (hc : PySem.W.selfFirst K C = true)
    (h0 : PySem.W.findIn K (.ref C) (PySem.dunder op.info.2) = some (some (.ref f0))) (h1 : PySem.W.findIn K (.ref C) (dunderR op.info.2) = some (some (.ref f))) (hf : PySem.W.isFn K (.ref f) = true)
    (hsub : PySem.W.subIn K (.ref C) (.type "bool") = some false) (hfill : fillsNumberSlot (.type "bool") op.info.2 = pure true) (slot : Slot "bool" (PySem.dunder op.info.2) id)
    (decl : wpAny (model prog w) A (call (.builtin id) [.bool p, .ref x]) (fun v s' => v = .notImplemented ∧ s'.heap = s.heap ∧ s'.gens = s.gens ∧ s'.drawn = s.drawn ∧ s'.os = s.os ∧ s'.toks = s.toks) E s)
    (h : wpAny (model prog w) A (call (.ref f) [.ref x, .bool p]) (PySem.W.CmpBack Q) E s) : wpAny (model prog w) A (binaryOp op (.bool p) (.ref x)) Q E s := by
  obtain ⟨cd, rest, hcd, hm⟩ := PySem.W.ksp_first hc
  rcases hi : op.info with ⟨sym, nm⟩
  rw [hi] at h0 h1 hfill slot
  dsimp only at h0 h1 hfill slot
  have two := PySem.W.ksp_try KX I h1 hf h
  obtain ⟨hh, g, d, tt, os⟩ := s
  have L1 : PySem.W.Looks (model prog w) hh (typeOf (.ref x)) (.ref C) := I.type
  have L3 : PySem.W.Looks (model prog w) hh (fillsNumberSlot (.ref C) nm) true := PySem.W.fills_K KX hcd hm h0
  have L5 : PySem.W.Looks (model prog w) hh (isSubtype (.ref C) (.type "bool")) false := PySem.W.looks_subIn KX hsub
  have hne : (Value.type "bool" == Value.ref C) = false := Bool.eq_false_iff.mpr fun q => by cases beq_iff_eq.mp q
  have hpy : numberSlotInPython (.type "bool") nm = pure false := rfl
  have one : wpAny (model prog w) A (tryMethod (.bool p) (PySem.dunder nm) (.ref x)) (fun r s' => r = none ∧ s'.heap = hh ∧ s'.gens = g ∧ s'.drawn = d ∧ s'.os = os ∧ s'.toks = tt) E ⟨hh, g, d, tt, os⟩ :=
    wpAny_tryMethod_declines (T := "bool") (typeIs_bool' _ p) slot (wpAny_mono decl (fun v s' q => ⟨q.1, rfl, q.2⟩) fun _ _ e => e)
  simp only [binaryOp, hi]
  refine wpAny_holding (wpAny_bind ?_)
  unfold binaryOp1
  refine wpAny_bind (wpAny_typeOf (typeIs_bool' _ p) (wpAny_bind (L1.at (wpAny_bind (wpAny_of_eq hfill ?_)))))
  simp only [hne, Bool.false_eq_true, if_false]
  refine wpAny_bind (L3.at ?_)
  simp only [Bool.and_self, if_true]
  refine wpAny_bind (L5.at ?_)
  simp only [Bool.false_eq_true, if_false, pure_bind, Bool.not_false, Bool.and_self, if_true, hpy]
  refine wpAny_bind (wpAny_mono one (fun r s' q => ?_) fun _ _ e => e)
  obtain ⟨h1, g1, d1, t1, o1⟩ := s'
  obtain ⟨rfl, q1, q2, q3, q4, q5⟩ := q
  dsimp only at q1 q2 q3 q4 q5
  subst q1 q2 q3 q4 q5
  dsimp only
  refine wpAny_bind (wpAny_mono two (fun r s' q => ?_) fun _ _ e => e)
  obtain ⟨v, rfl, q⟩ := q
  exact wpAny_bind (wpAny_rule (wpAny_pure (wpAny_pure q)))
end
end Own
namespace Own
open PySem PySem.Spec PyProof.Rows L2
section
variable {X : Cx} {CX : CXT} {k : Nat} {f C : Addr} {fd : FuncData} {ps : List Str} {sp : Sp} {E : XK} {op : Operator}
def rRightB (C : Addr) (sp : Sp) (E : XK) : R2 := fun x y H Q => ∃ i a dx fs, x = .bl i ∧ y = .ref a ∧ H a = some (.ins C dx fs) ∧ sp [.ref a, .bl i] H Q E
theorem opRB_of {id : String} {B : Builtin} (hfill : fillsNumberSlot (.type "bool") op.info.2 = pure true) (slot : Slot "bool" (PySem.dunder op.info.2) id) (entry : entryFor table id = some B) (args : ∀ a b : Value, argsOk id ⟨[a, b], []⟩)
    (decl : ∀ {prog : Program} {w : World} {A : Around} {E : Value → Shared → Prop} {s : Shared} {x C dx : Addr} {p : Bool} {Q : Shared → Prop}, s.heap.get? x = some (PySem.W.instObj C dx) → Q s →
      wpAny (model prog w) A (B ⟨[.bool p, .ref x], []⟩) (fun fin s' => ∃ v, fin = .done (.ret v) ∧ v = .notImplemented ∧ Q s') E s)
    (F : FnOk X.prog X.w X.K X.mg X.base CX k f fd ps sp) (hr : Room k X.A) (Z : BinR X.K C f op) (zb : PySem.W.subIn X.K (.ref C) (.type "bool") = some false) (hb : Binds X.K fd ps []) (hx : Passes CX X E) : OpR X (binaryOp op) (rRightB C sp E) := by
  rintro pins s σ H x y u v Q I rx ry ⟨i, a, dx, fs, rfl, rfl, ha, q⟩
  cases (show u = Value.bool i from rx)
  cases ry
  obtain ⟨od, J⟩ := inst I ha
  obtain ⟨z1, ⟨f0, z2⟩, z3, z4, z5⟩ := Z
  exact binRB I.kIn J z1 z2 z3 z4 zb hfill slot (wpAny_call_entry slot (typeIs_bool' s i) entry (wpAny_mono (decl (Q := fun s' => s'.heap = s.heap ∧ s'.gens = s.gens ∧ s'.drawn = s.drawn ∧ s'.os = s.os ∧ s'.toks = s.toks) J.at_ ⟨rfl, rfl, rfl, rfl, rfl⟩) (fun fin s' ⟨v, e, q⟩ => ⟨v, e, q⟩) fun _ _ e => e) (args _ _))
    (back (run2 (x := .ref a) (y := .bl i) F hr hb hx I rfl rfl q))
theorem opRBadd (F : FnOk X.prog X.w X.K X.mg X.base CX k f fd ps sp) (hr : Room k X.A) (Z : BinR X.K C f .Add) (zb : PySem.W.subIn X.K (.ref C) (.type "bool") = some false) (hb : Binds X.K fd ps []) (hx : Passes CX X E) : OpR X (binaryOp .Add) (rRightB C sp E) :=
  opRB_of PySem.F.fills_bool_add slotB_add PySem.F.entry_int_add PySem.F.args_int_add_2 declB_add F hr Z zb hb hx
theorem opRBsub (F : FnOk X.prog X.w X.K X.mg X.base CX k f fd ps sp) (hr : Room k X.A) (Z : BinR X.K C f .Sub) (zb : PySem.W.subIn X.K (.ref C) (.type "bool") = some false) (hb : Binds X.K fd ps []) (hx : Passes CX X E) : OpR X (binaryOp .Sub) (rRightB C sp E) :=
  opRB_of PySem.F.fills_bool_sub slotB_sub PySem.F.entry_int_sub PySem.F.args_int_sub_2 declB_sub F hr Z zb hb hx
theorem opRBmul (F : FnOk X.prog X.w X.K X.mg X.base CX k f fd ps sp) (hr : Room k X.A) (Z : BinR X.K C f .Mult) (zb : PySem.W.subIn X.K (.ref C) (.type "bool") = some false) (hb : Binds X.K fd ps []) (hx : Passes CX X E) : OpR X (binaryOp .Mult) (rRightB C sp E) :=
  opRB_of PySem.F.fills_bool_mul slotB_mul PySem.F.entry_int_mul PySem.F.args_int_mul_2 declB_mul F hr Z zb hb hx
end
end Own
/-! ## [x for x, b in zip(xs, bs) if b], bs a list of truths -/
namespace Rd
open PySem PySem.Spec PyProof.Rows L2
theorem wipe2 {σ : L2.St} {i j : Nat} {a b : Option V} (h : i ≠ j) : wipe (((wipe σ [i, j]).set i a).set j b) [i, j] = wipe σ [i, j] := by
  show (((((σ.set j none).set i none).set i a).set j b).set j none).set i none = (σ.set j none).set i none
  rw [List.set_set, List.set_set, List.set_comm _ _ h, List.set_set, List.set_set]
theorem lcZip {names : List V} {bs : List Bool} {K : PySem.W.Frag} {a b : Addr} {i1 i2 j1 j2 : Nat} {σ : L2.St} {H : Hp} {Q : VK} (hl : names.length = bs.length) (hn : names.length ≤ 1000) (e1 : σ[j1]? = some (some (.ref a))) (e2 : σ[j2]? = some (some (.ref b)))
    (h1 : SqL K H a names) {ws : List V} (h2' : SqL K H b ws) (ew : ws = bs.map V.bl)
    (hij : i1 ≠ i2) (li : i1 < σ.length) (lj : i2 < σ.length)
    (k : ∀ (p : Addr) (H' : Hp), H p = none → Same H H' → H' p = some (.lst (((names.zip bs).filter (·.2)).map (·.1))) → Q (.ref p) H') :
    tLc (iZip K (tCons (tVar j1) (tCons (tVar j2) tNil))) (gTup K 2 (gCons (gName i1) (gCons (gName i2) gNil))) (tB (tVar i2)) (tVar i1) [i1, i2] σ H Q := by
  subst ew
  have h2 := h2'
  have hw : ∀ x y, wipe (((wipe σ [i1, i2]).set i1 (some x)).set i2 (some y)) [i1, i2] = wipe σ [i1, i2] := fun x y => wipe2 hij
  have g1 : ∀ x y, (((wipe σ [i1, i2]).set i1 (some x)).set i2 (some y))[i1]? = some (some x) := fun x y => by
    rw [List.getElem?_set_ne (Ne.symm hij), List.getElem?_set_self (by rw [wipe_length]; exact li)]
  have g2 : ∀ x y, (((wipe σ [i1, i2]).set i1 (some x)).set i2 (some y))[i2]? = some (some y) := fun x y => by
    rw [List.getElem?_set_self (by rw [List.length_set, wipe_length]; exact lj)]
  refine lc ⟨_, e1, _, e2, a, b, _, _, rfl, h1, h2, fun D hD => lc_it (walk_zip (n := names.length) (by rw [List.length_map, ← hl, Nat.min_self])) (fun t H' => Same H H' ∧ H' D = some (.lst ((((names.zip bs).take t).filter (·.2)).map (·.1)))) ⟨same_upd hD (Same.refl _), upd_same⟩
    (fun t H' _ p => ⟨p.1.seq h1, p.1.seq h2⟩) (fun t v H0 H' ht p y => ?_) (fun H' p => ?_)⟩
  · obtain ⟨S, hd⟩ := p
    obtain ⟨T, x, y, rfl, hT, rfl, hx, hy⟩ := y
    dsimp only at hx hy
    have htb : t < bs.length := by omega
    have ey : y = .bl bs[t] := by
      rw [List.getElem?_map, List.getElem?_eq_getElem htb] at hy
      exact (Option.some.inj hy).symm
    subst ey
    have ex : names[t] = x := by
      rw [List.getElem?_eq_getElem ht] at hx
      exact Option.some.inj hx
    have nd : D ≠ T := ne_of_none hd hT
    have S' : Same H (upd H0 T (.tup [x, .bl bs[t]])) := same_upd (Same.free S hT) S
    have hd' : upd H0 T (.tup [x, .bl bs[t]]) D = some (.lst ((((names.zip bs).take t).filter (·.2)).map (·.1))) := by rw [upd_ne nd]; exact hd
    have tk : (names.zip bs).take (t + 1) = (names.zip bs).take t ++ [(x, bs[t])] := by
      rw [List.take_add_one, List.getElem?_eq_getElem (by rw [List.length_zip]; omega), List.getElem_zip, ex]
      rfl
    refine gtup (SqT.of upd_same) rfl (gcons (name (gcons (name (gnil ⟨hw _ _, tb (var (g2 _ _) (bl ?_))⟩)))))
    cases hb : bs[t] with
    | true =>
      rw [hb] at hd' S' tk
      refine iteT rfl (var (g1 _ _) ⟨_, hd', ?_, same_upd hD S', ?_⟩)
      · rw [List.length_map]
        refine small1000 (Nat.le_trans (List.length_filter_le _ _) ?_)
        rw [List.length_take, List.length_zip]
        omega
      · rw [upd_same, tk, List.filter_append, List.map_append]
        rfl
    | false =>
      rw [hb] at hd' S' tk
      refine iteF rfl ⟨S', ?_⟩
      rw [hd', tk, List.filter_append, List.map_append]
      simp
  · obtain ⟨S, hd⟩ := p
    rw [List.take_of_length_le (by rw [List.length_zip]; omega)] at hd
    exact k D H' hD S hd
end Rd
/-! ## isinstance of a caught error whatever its class; a call of a def that a name holds, whatever it is -/
namespace Ex2
open PySem PySem.Spec PyProof.Rows L2
def rIsE2 (K : PySem.W.Frag) (cls : Value) (d : Option Addr) (a : Addr) : List V → Hp → VK → Prop := fun xs H Q => ∃ D, cls = .ref D ∧ d = none ∧ ExcC K D ∧ rIsE K D a xs H Q
theorem call_isE2 {X : Cx} {K : PySem.W.Frag} (eK : X.K = K) {a : Addr} {cls : Value} {d : Option Addr} {oe : Obj} {pn : List (Addr × Obj)} (hz : Zc cls d oe) (hf : ∃ vs, oe.data = .fields vs) : CallR (X.suite a ((a, oe) :: pn)) (.builtin "isinstance") (rIsE2 K cls d a) := by
  subst eK
  rintro pins s σ H xs us Q I r ⟨D, rfl, rfl, C, q⟩
  exact call_isE C hz hf pins s σ H xs us Q I r q
/-- a def at f keeps sp, and may let errors out as sp says -/
structure HeldX (P : Program) (w : World) (K : PySem.W.Frag) (mg : Str → Option Value) (base : Heap) (k : Nat) (f : Addr) (sp : Sp) : Prop where
  ex : ∃ (j : Nat) (fd : FuncData) (ps : List Str), j ≤ k ∧ FnOk P w K mg base (L2.CX P w) j f fd ps sp ∧ PySem.W.keepIn K (.ref f) = true ∧ Binds K fd ps []
def tCallX (P : Program) (w : World) (K : PySem.W.Frag) (mg : Str → Option Value) (base : Heap) (k i : Nat) (E : L2.St → XK) (t : TA) : TE := fun σ H Q => ∃ f sp, HeldX P w K mg base k f sp ∧ σ[i]? = some (some (.ref f)) ∧ t σ H fun vs H1 => sp vs H1 Q (E σ)
section
variable {X : Cx} {k i : Nat} {E : L2.St → XK} {x : Str} {p pos : Pos} {e : Expr} {es : List Expr} {t : TA}
theorem pe_callX {P : Program} {w : World} {K : PySem.W.Frag} {mg : Str → Option Value} {base : Heap} (e1 : X.prog = P) (e2 : X.w = w) (e3 : X.K = K) (e4 : X.mg = mg) (e5 : X.base = base) (hr : Room k X.A) (hN : X.N[i]? = some x) (hv : Vis X.env.scope x) (hx : ∀ σ, PassesAt (L2.CX X.prog X.w) X σ (E σ)) (ha : PA X (e :: es) t)
    (h1 : (x == ("__debug__" : Str)) = false := by decide) (h2 : (x == ("__classdict__" : Str)) = false := by decide) (h3 : starEach (e :: es) X.env = (false, eval e X.env) :: starEach es X.env := by rfl) (h4 : (backTo pos (starEach es X.env)).any (·.1) = false := by rfl) :
    PE X (.Call (.Name x p) (e :: es) [] pos) (tCallX P w K mg base k i E t) := by
  subst e1 e2 e3 e4 e5
  refine ⟨fun pins s σ H Q I ⟨f, sp, ⟨⟨j, fd, ps, hj, F, kp, bd⟩⟩, at_, rest⟩ => ?_⟩
  refine wpAny_Call_Name_kw (thn ((pe_var (pos := p) hN hv h1 h2).run pins s σ H (fun w1 Hq => w1 = .ref f ∧ Hq = H) I ⟨.ref f, at_, rfl, rfl⟩) fun u s1 ⟨w1, Hq, I1, r1, ⟨e1, e2⟩⟩ => ?_)
  subst e1 e2
  cases r1
  exact PySem.W.callWith_K (h₀ := X.base) I.ok.mod.kin kp (thn (ha.run pos pins s1 σ _ _ I1 rest) fun us s2 ⟨vs, H2, I2, r, q⟩ => ⟨I2.kIn, run_fnS F (hr.mono hj) bd (hx σ) I2 r q⟩) h3 h4
end
end Ex2
/-! ## objects that are no integers; loops over written lists; one item of a list of anything -/
namespace Rd
open PySem PySem.Spec PyProof.Rows L2
def TS1 : List String := ["NoneType", "tuple", "list", "dict"]
/-- an address is marked as the source's -/
def IsSrc (_ : Addr) : Prop := True
def TS0 : List String := ["NoneType", "str", "tuple", "list", "dict"]
/-- none, a text, a tuple, a list of another length than two, a dict -/
inductive OddN (H : Hp) : V → Prop where
  | non : OddN H .non
  | str (x : Str) : OddN H (.str x)
  | tup {p : Addr} {xs : List V} (e : H p = some (.tup xs)) : OddN H (.ref p)
  | lst {p : Addr} {xs : List V} (e : H p = some (.lst xs)) (n : xs.length ≠ 2) : OddN H (.ref p)
  | dK {p : Addr} {kvs : List (Key × V)} (e : H p = some (.dK kvs)) : OddN H (.ref p)
theorem OddN.ty {K : PySem.W.Frag} {H : Hp} {v : V} : OddN H v → ∃ T, T ∈ TS0 ∧ TyX K H v (.type T)
  | .non => ⟨_, by decide, .base .non⟩
  | .str x => ⟨_, by decide, .base (.str x)⟩
  | .tup e => ⟨_, by decide, .base (.tup e)⟩
  | .lst e _ => ⟨_, by decide, .base (.lst e)⟩
  | .dK e => ⟨_, by decide, .base (.dK e)⟩
theorem OddN.same {H H' : Hp} {v : V} (S : Same H H') : OddN H v → OddN H' v
  | .non => .non
  | .str x => .str x
  | .tup e => .tup (S _ _ e)
  | .lst e n => .lst (S _ _ e) n
  | .dK e => .dK (S _ _ e)
theorem OddN.ty1 {K : PySem.W.Frag} {H : Hp} {v : V} : OddN H v → (∃ x, v = .str x) ∨ ∃ T, T ∈ TS1 ∧ TyX K H v (.type T)
  | .non => .inr ⟨_, by decide, .base .non⟩
  | .str x => .inl ⟨_, rfl⟩
  | .tup e => .inr ⟨_, by decide, .base (.tup e)⟩
  | .lst e _ => .inr ⟨_, by decide, .base (.lst e)⟩
  | .dK e => .inr ⟨_, by decide, .base (.dK e)⟩
theorem OddN.new {H : Hp} {v : V} {p : Addr} {o : HO} (n : H p = none) (h : OddN H v) : OddN (upd H p o) v := h.same fun b u e => by
  rw [upd_ne (ne_of_none e n)]; exact e
theorem OddN.two {H : Hp} {v : V} {a : Addr} {x y : V} {o : HO} (e : H a = some (.lst [x, y])) (h : OddN H v) : OddN (upd H a o) v := by
  cases h with
  | non => exact .non
  | str x => exact .str x
  | tup q => exact .tup (by rw [upd_ne (ne_of q e (by intro z; cases z))]; exact q)
  | lst q n => exact .lst (by rw [upd_ne (ne_of q e (by intro z; cases z; exact n rfl))]; exact q) n
  | dK q => exact .dK (by rw [upd_ne (ne_of q e (by intro z; cases z))]; exact q)
theorem tyof_same {K : PySem.W.Frag} {H H' : Hp} {y : V} {t : Value} (S : Same H H') (h : TyOf K H y t) : TyOf K H' y t := by
  cases h with
  | non => exact .non
  | bl x => exact .bl x
  | int x => exact .int x
  | str x => exact .str x
  | flt x => exact .flt x
  | lst e => exact .lst (S _ _ e)
  | frz e => exact .frz (S _ _ e)
  | tup e => exact .tup (S _ _ e)
  | dK e => exact .dK (S _ _ e)
  | dT e => exact .dT (S _ _ e)
  | ins e c a n k m => exact .ins (S _ _ e) c a n k m
theorem tyx_same {K : PySem.W.Frag} {H H' : Hp} {y : V} {t : Value} (S : Same H H') (h : TyX K H y t) : TyX K H' y t := by
  cases h with
  | base b => exact .base (tyof_same S b)
  | byt b => exact .byt b
  | set e => exact .set (S _ _ e)
  | kList e c => exact .kList e c
  | kTuple e c => exact .kTuple e c
  | kDict e c => exact .kDict e c
  | fTuple e => exact .fTuple (S _ _ e)
  | fDict e => exact .fDict (S _ _ e)
theorem kit_TS_int {K : PySem.W.Frag} : ∀ T ∈ TS0, PySem.W.kitOne K (.type T) (.type "int") = some false := by
  intro T h
  simp only [TS0, List.mem_cons, List.not_mem_nil, or_false] at h
  rcases h with rfl | rfl | rfl | rfl | rfl
  exact kit_none_int
  exact kit_str_int
  exact kit_tuple_int
  exact kit_list_int
  exact kit_dict_int
/-- .. or a truth -/
def OddV (H : Hp) (v : V) : Prop := OddN H v ∨ ∃ b, v = .bl b
theorem OddV.same {H H' : Hp} {v : V} (S : Same H H') (h : OddV H v) : OddV H' v := h.imp (·.same S) id
theorem dp_ss {K : PySem.W.Frag} {H : Hp} {p : Addr} {a b : Str} (h : SqL K H p [.str a, .str b]) : Dp K H (.ref p) (.list [.str a, .str b]) := .lst h (.cons (.str _) (.cons (.str _) .nil))
theorem shaped_ss {a b : Str} (ha : PyData.strOk a = true) (hb : PyData.strOk b = true) : SeqAt.shaped (.list [.str a, .str b]) = true := by
  simp only [PySem.SeqAt.shaped, PySem.PyData.canLay0, PySem.PyData.canLayAll0, PySem.PyData.depth, PySem.PyData.depthAll, ha, hb]; rfl
theorem OddV.sameR {H H' : Hp} {v : V} (h : OddV H v) (S : Same H H') : OddV H' v := h.same S
theorem eqv_ss (a b : Str) : PyData.eqv (.list [.str a, .str b]) (.list [.str a, .str b]) = true := by simp [PyData.eqv, PyData.eqvAll]
/-- of a list of anything one item: what all its items keep -/
theorem pickV (P : Hp → V → Prop) {K : PySem.W.Frag} {H : Hp} {a : Addr} {xs : List V} {d : Int} {Q : VK} (e : SqL K H a xs) (hm : ∀ v ∈ xs, P H v) (h0 : 0 ≤ d) (h1 : d < (xs.length : Int))
    (k : ∀ v, v ∈ xs → P H v → Q v H) : rIxL K (.ref a) (.int d) H Q := by
  obtain ⟨j, rfl⟩ : ∃ j : Nat, d = (j : Int) := ⟨d.toNat, by omega⟩
  have hj : j < xs.length := by omega
  exact ixL e (atI_nat (List.getElem?_eq_getElem hj)) (k _ (List.getElem_mem hj) (hm _ (List.getElem_mem hj)))
theorem catL {H : Hp} {l b : Addr} {xs zs : List V} {Q : VK} (h1 : H l = some (.lst xs)) (h2 : H b = some (.lst zs)) (n : xs.length + zs.length ≤ 1000) (k : ∀ p, H p = none → Q (.ref p) (upd H p (.lst (xs ++ zs)))) : rCat (.ref l) (.ref b) H Q :=
  ⟨l, b, xs, zs, rfl, rfl, h1, h2, Nat.le_of_lt (small1000 n), k⟩
/-- a loop over a list that is known whole, turn by turn -/
def unr (K : PySem.W.Frag) (a : Addr) (all : List V) (g : TG) (tb : TS) (D : Ends) : List V → L2.St → Hp → Prop
  | [], σ, H => D.nx σ H
  | x :: xs, σ, H => g x σ H fun σ2 H2 => tb { D with nx := fun σ' H' => SqL K H' a all ∧ unr K a all g tb D xs σ' H', ct := fun σ' H' => SqL K H' a all ∧ unr K a all g tb D xs σ' H', bk := D.nx } σ2 H2
theorem unroll {K : PySem.W.Frag} {a : Addr} {all : List V} {g : TG} {tb : TS} {D : Ends} {σ : L2.St} {H : Hp} (h0 : SqL K H a all) (h : unr K a all g tb D all σ H) :
    ∃ W : Nat → Nat → L2.St → Hp → Prop, (∃ m, W 0 m σ H) ∧ ∀ i m σ H, W i m σ H →
      ((Itl K a).stop i H ∧ D.nx σ H) ∨ ((Itl K a).go i H ∧ ∃ N : L2.St → Hp → Prop, (∀ σ' H', N σ' H' → ∃ m', m' < m ∧ W (i + 1) m' σ' H') ∧ ∀ x H', (Itl K a).yld i H x H' → g x σ H' fun σ2 H2 => tb { D with nx := N, ct := N, bk := D.nx } σ2 H2) := by
  refine for_list (xs := all) (fun i σ H => SqL K H a all ∧ unr K a all g tb D (all.drop i) σ H) ⟨h0, h⟩ (fun i σ H _ p => p.1) (fun i x σ H hx p => ?_) (fun σ H p => ?_)
  · have hi : i < all.length := (List.getElem?_eq_some_iff.mp hx).1
    have e : all.drop i = x :: all.drop (i + 1) := by rw [List.drop_eq_getElem_cons hi]; congr 1; exact (List.getElem?_eq_some_iff.mp hx).2
    have q := p.2
    rw [e] at q
    exact q
  · have q := p.2
    rw [List.drop_length] at q
    exact q
theorem unroll2 {K : PySem.W.Frag} {a : Addr} {all : List V} {g : TG} {tb : TS} {D : Ends} {σ : L2.St} {H : Hp} (h0 : SqL K H a all) (h : unr K a all g tb D all σ H) :
    (∃ xs, SqL K H a xs) ∧ ∃ W : Nat → Nat → L2.St → Hp → Prop, (∃ m, W 0 m σ H) ∧ ∀ i m σ H, W i m σ H →
      ((Itl K a).stop i H ∧ D.nx σ H) ∨ ((Itl K a).go i H ∧ ∃ N : L2.St → Hp → Prop, (∀ σ' H', N σ' H' → ∃ m', m' < m ∧ W (i + 1) m' σ' H') ∧ ∀ x H', (Itl K a).yld i H x H' → g x σ H' fun σ2 H2 => tb { D with nx := N, ct := N, bk := D.nx } σ2 H2) := ⟨⟨_, h0⟩, unroll h0 h⟩
theorem unrCons {K : PySem.W.Frag} {a : Addr} {all : List V} {g : TG} {tb : TS} {D : Ends} {x : V} {xs : List V} {σ : L2.St} {H : Hp}
    (h : g x σ H fun σ2 H2 => tb { D with nx := fun σ' H' => SqL K H' a all ∧ unr K a all g tb D xs σ' H', ct := fun σ' H' => SqL K H' a all ∧ unr K a all g tb D xs σ' H', bk := D.nx } σ2 H2) : unr K a all g tb D (x :: xs) σ H := h
theorem unrNil {K : PySem.W.Frag} {a : Addr} {all : List V} {g : TG} {tb : TS} {D : Ends} {σ : L2.St} {H : Hp} (h : D.nx σ H) : unr K a all g tb D [] σ H := h
/-- {k: v} of written values -/
theorem disp1 {σ : L2.St} {H : Hp} {Q : VK} {i : Int} {x : V} (h : ∀ p, H p = none → Q (.ref p) (upd H p (.dK [(.inl i, x)]))) : tDisp [(tC (.int i), tC x)] σ H Q :=
  fun p np => ⟨upd_same, [(.inl i, x)], rfl, Nat.le_of_ble_eq_true rfl, by rw [upd_upd]; exact h p np⟩
theorem newK {σ : L2.St} {H : Hp} {Q : VK} (h : ∀ p, H p = none → Q (.ref p) (upd H p (.dK []))) : tDNewK σ H Q := h
theorem ty_str {b : Str} : ∀ u, RelV (.str b) u → typeOf u = pure (.type "str") := by
  intro u r
  obtain ⟨t, q⟩ := (show ∃ t, u = Value.str b t from r)
  cases q
  rfl
theorem ty_bl {b : Bool} : ∀ u, RelV (.bl b) u → typeOf u = pure (.type "bool") := by
  intro u r
  cases (show u = Value.bool b from r)
  rfl
end Rd
/-! ## static methods, called by their class; a def's promise that is its own body; small helpers -/
namespace Sta
open PySem PySem.Spec PyProof.Rows L2
structure SMet (K : PySem.W.Frag) (C : Addr) (m : Str) (f : Addr) : Prop where
  rd : PySem.W.readsIn K C (.type "type") = true
  ga : PySem.W.specialIn K (.ref C) "__getattribute__" = some (some (.builtin "type.__getattribute__"))
  at_ : ∃ p rest, PySem.W.findCls K (.ref C) (.type "type") m = some (.get (.builtin "staticmethod.__get__") (.ref p) .none (.ref C)) ∧ PySem.W.recIn K p "staticmethod" = some (.ref f :: rest)
  kp : PySem.W.keepIn K (.ref f) = true
def tSMeth (C : Addr) (sp : Sp) (dvs : List V) (E : XK) (ta : TE) (t : TA) : TE := fun σ H Q => ta σ H fun x H1 => x = .ref C ∧ t σ H1 fun vs H2 => sp (vs ++ dvs) H2 Q E
section
variable {X : Cx} {CX : CXT} {k : Nat} {C f : Addr} {fd : FuncData} {ps : List Str} {ds : List Value} {dvs : List V} {sp : Sp} {E : XK} {o e : Expr} {es : List Expr} {m : Str} {pos apos : Pos} {ta : TE} {t : TA} {pl : Sem Bool}
theorem getmeth_sm {pins : List (Addr × Obj)} {σ : L2.St} {H : Hp} {s : Shared} {A : Around} {E' : Value → Shared → Prop} {Q : Value × List Value → Shared → Prop} (I : Inv X pins σ H s) (c : SMet X.K C m f)
    (h : ∀ s', Inv X pins σ H s' → Q (.ref f, []) s') : wpAny (model X.prog X.w) A (getMethod (.ref C) m pl) Q E' s := by
  obtain ⟨p, rest, a1, a2⟩ := c.at_
  exact PySem.W.method_cls I.kIn c.ga (PySem.W.cls_bind I.kIn c.rd a1 (wpAny_call (PySem.W.sm_get (s := { s with toks := s.toks + 1 }) I.kIn a2 (PySem.W.handed_on rfl (h _ (I.tok _))))))
theorem pe_smeth (he : PE X o ta) (c : SMet X.K C m f) (F : FnOk X.prog X.w X.K X.mg X.base CX k f fd ps sp) (hr : Room k X.A) (hb : Binds X.K fd ps ds) (hd : Vals dvs ds) (hx : Passes CX X E) (ha : PA X (e :: es) t)
    (hst : starEach (e :: es) X.env = (false, eval e X.env) :: starEach es X.env := by rfl) (hpl : (backTo pos (starEach es X.env)).any (·.1) = false := by rfl)
    (ht : eval (.Call (.Attribute o m apos) (e :: es) [] pos) X.env = (do
      let ov ← eval o X.env
      standAt apos.atName
      let (f, first) ← holding [ov] (getMethod ov m pl)
      callWith pos f first (backTo pos (starEach (e :: es) X.env)) (backToKw pos (keywordEach [] X.env))) := by rfl) :
    PE X (.Call (.Attribute o m apos) (e :: es) [] pos) (tSMeth C sp dvs E ta t) := by
  refine ⟨fun pins s σ H Q I h => ?_⟩
  refine PySem.W.methodCall_KW (pl := pl) (thn (he.run pins s σ H _ I h) fun u s1 ⟨x, H1, I1, rx, ex, q⟩ => ?_) ht
  subst ex
  obtain rfl : u = Value.ref C := rx
  refine getmeth_sm I1 c fun s2 I2 => ?_
  refine PySem.W.callWith_K (first := []) (h₀ := X.base) I2.ok.mod.kin c.kp (thn (ha.run pos pins s2 σ H1 _ I2 q) fun us s3 ⟨vs, H2, I3, r, q2⟩ => ⟨I3.kIn, ?_⟩) hst hpl
  exact run_fn (us := us) (vs := vs) F hr hb hd hx I3 r q2
theorem pe_smeth0 (he : PE X o ta) (c : SMet X.K C m f) (F : FnOk X.prog X.w X.K X.mg X.base CX k f fd ps sp) (hr : Room k X.A) (hb : Binds X.K fd ps ds) (hd : Vals dvs ds) (hx : Passes CX X E)
    (ht : eval (.Call (.Attribute o m apos) [] [] pos) X.env = (do
      let ov ← eval o X.env
      standAt apos.atName
      let (f, first) ← holding [ov] (getMethod ov m pl)
      callWith pos f first (backTo pos (starEach [] X.env)) (backToKw pos (keywordEach [] X.env))) := by rfl) :
    PE X (.Call (.Attribute o m apos) [] [] pos) (tSMeth C sp dvs E ta tNil) := by
  refine ⟨fun pins s σ H Q I h => ?_⟩
  refine PySem.W.methodCall_KW (pl := pl) (thn (he.run pins s σ H _ I h) fun u s1 ⟨x, H1, I1, rx, ex, q⟩ => ?_) ht
  subst ex
  obtain rfl : u = Value.ref C := rx
  refine getmeth_sm I1 c fun s2 I2 => ?_
  exact PySem.W.callWith_K0 (first := []) I2.kIn c.kp (run_fn (us := []) (vs := []) F hr hb hd hx I2 .nil q)
/-- a def that may raise, called where nothing may leave -/
theorem passF {X : Cx} : Passes (L2.CX X.prog X.w) X E0 := fun _ _ _ _ _ _ _ ⟨_, _, _, _, _, _, _, _, _, _, _, _, z⟩ => z.elim
end
end Sta
namespace Rd
open PySem PySem.Spec PyProof.Rows L2
section
variable {σ : L2.St} {H : Hp} {Q : VK} {D : Ends} {K : PySem.W.Frag}
theorem smeth {C : Addr} {sp : Sp} {dvs : List V} {E : XK} {ta : TE} {t : TA} (h : ta σ H fun x H1 => x = .ref C ∧ t σ H1 fun vs H2 => sp (vs ++ dvs) H2 Q E) : Sta.tSMeth C sp dvs E ta t σ H Q := h
theorem m0 {r : V → List V → Hp → VK → Prop} {to : TE} (h : to σ H fun x H1 => (∃ a, x = .str a) ∧ r x [] H1 Q) : tM0 r to σ H Q := h
theorem m1 {r : V → List V → Hp → VK → Prop} {to te : TE} (h : to σ H fun x H1 => (∃ a, x = .str a) ∧ te σ H1 fun y H2 => r x [y] H2 Q) : tM1 r to te σ H Q := h
theorem fmt {te : TE} (h : te σ H fun x H1 => (∃ y : Str, x = .str y ∧ y.length ≤ sizeLine ∧ Q (.str y) H1) ∨ ∃ i : Int, x = .int i ∧ i.natAbs.log2 < 1920 ∧ Q (.str (toString i)) H1) : tFmt te σ H Q := h
theorem chainP {r' : R2} {tc : TE} {y : V} {c d : Bool} (h1 : ∀ Q' : VK, Q' (.bl d) H → tc σ H fun w' H4 => r' y w' H4 Q') (h : Q (.bl (c && d)) H) : if c = true then tc σ H (fun w' H4 => r' y w' H4 Q) else Q (.bl false) H := by
  cases c with
  | true => exact h1 Q h
  | false => exact h
theorem peN {X : Cx} {e : Expr} : PE X e (fun _ _ _ => False) := ⟨fun _ _ _ _ _ _ z => z.elim⟩
theorem ptN {X : Cx} {e : Expr} : PT X e (fun _ _ _ => False) := ⟨fun _ _ _ _ _ _ z => z.elim⟩
theorem via {sp : Sp} {vs : List V} {E : XK} (Post : V → Hp → Prop) (h1 : ∀ Q' : VK, (∀ v H', Post v H' → Q' v H') → sp vs H Q' E) (h2 : ∀ v H', Post v H' → Q v H') : sp vs H Q E := h1 Q h2
end
end Rd
/-! ## texts: numbers written, and the methods by lists of signs -/
namespace Tx
open PySem L2 PyProof PyProof.Rows TL
theorem pre_iff {S l : List Nat} : pre S l = true ↔ ∃ r, l = S ++ r := by
  unfold pre
  rw [beq_iff_eq]
  constructor
  · intro h
    exact ⟨l.drop S.length, by rw [← h]; simp only [List.length_take]; conv => lhs; rw [← List.take_append_drop S.length l]
                               congr 1
                               rw [← h] at *
                               simp⟩
  · rintro ⟨r, rfl⟩
    simp
theorem subAt_tl (x y : Str) (i : Nat) : Builtin.Str.subAt x y i = (((tl x).drop i).take (tl y).length == tl y) := by
  rw [StrLaws.subAt_eq, len_tl]
theorem sw_tl (x y : Str) : Txt.startswith x y = pre (tl y) (tl x) := by
  unfold Txt.startswith pre
  rw [subAt_tl, len_tl, len_tl, List.drop_zero]
  by_cases h : (tl y).length ≤ (tl x).length
  · simp only [Nat.zero_add, h, decide_true, Bool.true_and]
  · simp only [Nat.zero_add, h, decide_false, Bool.false_and]
    symm
    rw [beq_eq_false_iff_ne]
    intro e
    exact h (by rw [← e]; simp [List.length_take]; omega)
/-- the last signs -/
def suf (S l : List Nat) : Bool := decide (S.length ≤ l.length) && (l.drop (l.length - S.length) == S)
theorem ew_tl (x y : Str) : Txt.endswith x y = suf (tl y) (tl x) := by
  unfold Txt.endswith suf
  rw [subAt_tl, len_tl, len_tl, Nat.zero_add]
  by_cases h : (tl y).length ≤ (tl x).length
  · simp only [h, decide_true, Bool.true_and]
    rw [List.take_of_length_le (by rw [List.length_drop]; omega)]
  · simp only [h, decide_false, Bool.false_and]
theorem suf_app (a S : List Nat) : suf S (a ++ S) = true := by
  unfold suf
  simp
theorem suf_one {c : Nat} {l : List Nat} : suf [c] l = decide (l.getLast? = some c) := by
  unfold suf
  rcases List.eq_nil_or_concat l with rfl | ⟨l', d, rfl⟩
  · rfl
  · simp [beq_iff_eq]
    by_cases q : d = c <;> simp [q]
/-- without the first signs, where they stand -/
theorem rp_app {x y : Str} {r : List Nat} (h : tl x = tl y ++ r) : tl (Txt.removeprefix x y) = r := by
  have e : Builtin.Str.subAt x y 0 = true := by rw [subAt_tl, h]; simp
  unfold Txt.removeprefix Txt.affix
  rw [if_pos e]
  dsimp only
  have hl : x.length = (tl y).length + r.length := by rw [len_tl, h, List.length_append]
  by_cases q : (x.length - y.length == x.length) = true
  · rw [if_pos q, h]
    rw [beq_iff_eq, len_tl y] at q
    have : (tl y).length = 0 := by omega
    rw [List.length_eq_zero_iff.mp this, List.nil_append]
  · rw [if_neg q, tl_strSub, h, len_tl y, hl]
    simp
theorem rp_none {x y : Str} (h : pre (tl y) (tl x) = false) : Txt.removeprefix x y = x := by
  have e : Builtin.Str.subAt x y 0 = false := by
    rw [subAt_tl, List.drop_zero]
    unfold pre at h
    rw [← h]
  unfold Txt.removeprefix Txt.affix
  rw [e]
  rfl
theorem rs_app {x y : Str} {r : List Nat} (h : tl x = r ++ tl y) : tl (Txt.removesuffix x y) = r := by
  have hl : x.length = r.length + (tl y).length := by rw [len_tl, h, List.length_append]
  have e : (decide (y.length ≤ x.length) && Builtin.Str.subAt x y (x.length - y.length)) = true := by
    rw [subAt_tl, h, hl, len_tl y]
    simp only [Nat.add_sub_cancel, List.drop_left', List.take_length, beq_self_eq_true, Bool.and_true, decide_eq_true_eq]
    omega
  unfold Txt.removesuffix Txt.affix
  rw [if_pos e]
  dsimp only
  by_cases q : (x.length - y.length - 0 == x.length) = true
  · rw [if_pos q, h]
    rw [beq_iff_eq, len_tl y] at q
    have : (tl y).length = 0 := by omega
    rw [List.length_eq_zero_iff.mp this, List.append_nil]
  · rw [if_neg q, tl_strSub, h, len_tl y, hl]
    simp
/-- a whole number's text -/
abbrev nS (i : Int) : Str := Str.ofString (toString i)
theorem nS_nat (n : Nat) : tl (nS (n : Int)) = numL n := tl_num n
theorem nS_pos {i : Int} (h : 0 ≤ i) : tl (nS i) = numL i.natAbs := by
  obtain ⟨n, rfl⟩ := Int.eq_ofNat_of_zero_le h
  exact tl_num n
theorem nS_neg {i : Int} (h : i < 0) : tl (nS i) = 45 :: numL i.natAbs := by
  obtain ⟨n, rfl⟩ : ∃ n : Nat, i = Int.negSucc n := ⟨(-i).toNat - 1, by omega⟩
  have e : toString (Int.negSucc n) = "-" ++ toString (n + 1) := rfl
  show tl (Str.ofString (toString (Int.negSucc n))) = _
  rw [e, tl_ofString, String.toList_append, List.map_append]
  have e2 : (toString (n + 1)).toList.map Char.toNat = numL (n + 1) := by
    rw [← tl_num (n + 1), tl_ofString]
    rfl
  rw [e2]
  rfl
theorem log2_lt {n k : Nat} (h : n < 2 ^ k) (hk : 0 < k) : n.log2 < k := by
  by_cases h0 : n = 0
  · subst h0; simpa using hk
  · exact (Nat.log2_lt h0).mpr h
theorem int_nS {i : Int} (h0 : 0 ≤ i) (h : i < 10 ^ 60) : intText? (nS i) = some i := by
  obtain ⟨n, rfl⟩ := Int.eq_ofNat_of_zero_le h0
  have := numL_len (n := n) (k := 60) (by decide) (by omega)
  exact int_num (by omega)
theorem nS_len {i : Int} {k : Nat} (h0 : 0 ≤ i) (hk : 0 < k) (h : i < 10 ^ k) : (nS i).length ≤ k := by
  obtain ⟨n, rfl⟩ := Int.eq_ofNat_of_zero_le h0
  rw [len_tl, nS_nat]
  exact numL_len hk (by exact_mod_cast h)
theorem nS_digit {i : Int} (h0 : 0 ≤ i) : Txt.isdigit (nS i) = true := by
  obtain ⟨n, rfl⟩ := Int.eq_ofNat_of_zero_le h0
  have a := numL_digits n
  have b := numL_ne n
  unfold Txt.isdigit
  rw [Bool.and_eq_true]
  constructor
  · rw [len_tl, nS_nat, decide_eq_true_eq]
    exact List.length_pos_iff.mpr b
  · rw [← Array.all_toList, List.all_eq_true]
    intro c hc
    have hc : c ∈ numL n := by rw [← nS_nat]; exact hc
    obtain ⟨h1, h2⟩ := a c hc
    have : ∀ d : Nat, d < 58 → 48 ≤ d → PySem.Unicode.isDigit d = true := by decide +kernel
    exact this c (by omega) h1
theorem nS_ascii (i : Int) (h0 : 0 ≤ i) : Txt.isascii (nS i) = true := by
  obtain ⟨n, rfl⟩ := Int.eq_ofNat_of_zero_le h0
  unfold Txt.isascii
  rw [← Array.all_toList, List.all_eq_true]
  intro c hc
  have hc : c ∈ numL n := by rw [← nS_nat]; exact hc
  obtain ⟨h1, h2⟩ := numL_digits n c hc
  exact decide_eq_true (by omega)
theorem numL_head0 : ∀ n : Nat, (numL n).head? = some 48 → n = 0 := by
  intro n
  induction n using Nat.strongRecOn with
  | ind n ih =>
    intro h
    by_cases hn : n < 10
    · rw [numL_lt hn] at h
      simp at h
      omega
    · rw [numL_step (by omega)] at h
      have hne := numL_ne (n / 10)
      have h' : (numL (n / 10)).head? = some 48 := by
        cases e : numL (n / 10) with
        | nil => exact absurd e hne
        | cons c cs => rw [e] at h; simpa using h
      have := ih (n / 10) (by omega) h'
      omega
end Tx
/-! ## the texts of forms -/
namespace Tf
open PySem L2 PyProof PyProof.Rows TL Tx
def shS (s : Int) : Str := if s = 1 then "N" else if s = -1 then "-N" else Str.empty ++ nS s ++ "*N"
def shF (s b : Int) : Str := if s = 0 then nS b else if 0 < b then Str.empty ++ shS s ++ " + " ++ nS b else if b < 0 then Str.empty ++ shS s ++ " - " ++ nS (-b) else shS s
def wF (s b : Int) : List Str := if s = 0 then [nS b] else if 0 < b then [shS s, "+", nS b] else if b < 0 then [shS s, "-", nS (-b)] else [shS s]
theorem shS_o {s : Int} (h1 : s ≠ 1) (h2 : s ≠ -1) : shS s = Str.empty ++ nS s ++ "*N" := by unfold shS; rw [if_neg h1, if_neg h2]
theorem shF_0 (b : Int) : shF 0 b = nS b := by unfold shF; rw [if_pos rfl]
theorem shF_p {s b : Int} (h : s ≠ 0) (hb : 0 < b) : shF s b = Str.empty ++ shS s ++ " + " ++ nS b := by unfold shF; rw [if_neg h, if_pos hb]
theorem shF_n {s b : Int} (h : s ≠ 0) (hb : b < 0) : shF s b = Str.empty ++ shS s ++ " - " ++ nS (-b) := by unfold shF; rw [if_neg h, if_neg (by omega), if_pos hb]
theorem shF_z {s : Int} (h : s ≠ 0) : shF s 0 = shS s := by unfold shF; rw [if_neg h, if_neg (by omega), if_neg (by omega)]
theorem wF_0 (b : Int) : wF 0 b = [nS b] := by unfold wF; rw [if_pos rfl]
theorem wF_p {s b : Int} (h : s ≠ 0) (hb : 0 < b) : wF s b = [shS s, "+", nS b] := by unfold wF; rw [if_neg h, if_pos hb]
theorem wF_n {s b : Int} (h : s ≠ 0) (hb : b < 0) : wF s b = [shS s, "-", nS (-b)] := by unfold wF; rw [if_neg h, if_neg (by omega), if_pos hb]
theorem wF_z {s : Int} (h : s ≠ 0) : wF s 0 = [shS s] := by unfold wF; rw [if_neg h, if_neg (by omega), if_neg (by omega)]
theorem tl_e : tl Str.empty = [] := rfl
theorem tl_N : tl ("N" : Str) = [78] := by decide +kernel
theorem tl_mN : tl ("-N" : Str) = [45, 78] := by decide +kernel
theorem tl_sN : tl ("*N" : Str) = [42, 78] := by decide +kernel
theorem tl_sp : tl (" " : Str) = [32] := by decide +kernel
theorem tl_pl : tl ("+" : Str) = [43] := by decide +kernel
theorem tl_mi : tl ("-" : Str) = [45] := by decide +kernel
theorem tl_z : tl ("0" : Str) = [48] := by decide +kernel
theorem tl_pls : tl (" + " : Str) = [32, 43, 32] := by decide +kernel
theorem tl_mis : tl (" - " : Str) = [32, 45, 32] := by decide +kernel
theorem nS_free {c : Nat} (h : c < 48 ∨ 57 < c) (h2 : c ≠ 45) (i : Int) : c ∉ tl (nS i) := by
  by_cases q : 0 ≤ i
  · rw [nS_pos q]; exact numL_free h
  · rw [nS_neg (by omega)]
    intro hm
    rcases List.mem_cons.mp hm with e | e
    · exact h2 e
    · exact numL_free h e
theorem shS_free (s : Int) : 32 ∉ tl (shS s) := by
  unfold shS
  split
  · rw [tl_N]; decide
  · split
    · rw [tl_mN]; decide
    · rw [tl_append, tl_append, tl_e, tl_sN, List.nil_append]
      intro hm
      rcases List.mem_append.mp hm with e | e
      · exact nS_free (by decide) (by decide) s e
      · revert e; decide
theorem join_wF (s b : Int) : shF s b = Txt.join " " (wF s b) := by
  rw [join_eq]
  apply ext_tl
  rw [tl_join, tl_sp]
  unfold shF wF
  split
  · rfl
  · split
    · simp only [tl_append, tl_e, tl_pls, List.map_cons, List.map_nil, joinL, tl_pl, List.nil_append, List.append_assoc, List.cons_append]
    · split
      · simp only [tl_append, tl_e, tl_mis, List.map_cons, List.map_nil, joinL, tl_mi, List.nil_append, List.append_assoc, List.cons_append]
      · rfl
theorem wF_free (s b : Int) : ∀ p ∈ wF s b, 32 ∉ tl p := by
  unfold wF
  intro p hp
  split at hp
  · rw [List.mem_singleton.mp hp]; exact nS_free (by decide) (by decide) b
  · split at hp
    · simp only [List.mem_cons, List.not_mem_nil, or_false] at hp
      rcases hp with rfl | rfl | rfl
      · exact shS_free s
      · rw [tl_pl]; decide
      · exact nS_free (by decide) (by decide) b
    · split at hp
      · simp only [List.mem_cons, List.not_mem_nil, or_false] at hp
        rcases hp with rfl | rfl | rfl
        · exact shS_free s
        · rw [tl_mi]; decide
        · exact nS_free (by decide) (by decide) _
      · rw [List.mem_singleton.mp hp]; exact shS_free s
theorem wF_ne (s b : Int) : wF s b ≠ [] := by
  unfold wF
  split
  · simp
  · split
    · simp
    · split <;> simp
theorem split_shF (s b : Int) : Txt.split (shF s b) " " = wF s b := by
  rw [join_wF]
  exact split_join tl_sp (by decide +kernel) (wF_ne s b) (wF_free s b)
theorem nS_ne (i : Int) : tl (nS i) ≠ [] := by
  by_cases q : 0 ≤ i
  · rw [nS_pos q]; exact numL_ne _
  · rw [nS_neg (by omega)]; simp
theorem nS_endN (i : Int) : Txt.endswith (nS i) "N" = false := by
  rw [ew_tl, tl_N, suf_one, decide_eq_false_iff_not]
  intro h
  exact nS_free (c := 78) (by decide) (by decide) i (List.mem_of_getLast? h)
theorem shS_endN (s : Int) : Txt.endswith (shS s) "N" = true := by
  rw [ew_tl, tl_N]
  unfold shS
  split
  · rw [tl_N]; rfl
  · split
    · rw [tl_mN]; rfl
    · rw [tl_append, tl_sN]
      exact (show suf [78] ((tl (Str.empty ++ nS s) ++ [42]) ++ [78]) = true from suf_app _ _) ▸ (by rw [List.append_assoc]; rfl)
theorem nS_0 : nS 0 = "0" := by decide +kernel
theorem nS_sw0 {i : Int} (h : 0 < i) : Txt.startswith (nS i) "0" = false := by
  rw [sw_tl, tl_z, Bool.eq_false_iff]
  intro e
  obtain ⟨r, hr⟩ := pre_iff.mp e
  rw [nS_pos (by omega)] at hr
  have := numL_head0 i.natAbs (by rw [hr]; rfl)
  omega
theorem nS_swm {i : Int} (h : 0 ≤ i) : Txt.startswith (nS i) "-" = false := by
  rw [sw_tl, tl_mi, Bool.eq_false_iff]
  intro e
  obtain ⟨r, hr⟩ := pre_iff.mp e
  rw [nS_pos h] at hr
  exact numL_free (n := i.natAbs) (s := 45) (by decide) (by rw [hr]; exact List.mem_cons_self ..)
theorem nS_swn {i : Int} (h : i < 0) : Txt.startswith (nS i) "-" = true := by
  rw [sw_tl, tl_mi, nS_neg h]
  exact pre_iff.mpr ⟨_, rfl⟩
theorem nS_rpm {i : Int} (h : i < 0) : Txt.removeprefix (nS i) "-" = nS (-i) := by
  apply ext_tl
  rw [rp_app (r := numL i.natAbs) (by rw [nS_neg h, tl_mi]; rfl), nS_pos (by omega)]
  congr 1
  omega
theorem pl_rp (b : Int) : Txt.removeprefix (("+" : Str) ++ nS b) "+" = nS b := by
  apply ext_tl
  rw [rp_app (r := tl (nS b)) (by rw [tl_append])]
theorem mi_app {b : Int} (h : b < 0) : ("-" : Str) ++ nS (-b) = nS b := by
  apply ext_tl
  rw [tl_append, tl_mi, nS_pos (by omega), nS_neg h]
  show 45 :: numL _ = 45 :: numL _
  congr 2
  omega
theorem nS_rpp (i : Int) : Txt.removeprefix (nS i) "+" = nS i := by
  refine rp_none ?_
  rw [tl_pl, Bool.eq_false_iff]
  intro e
  obtain ⟨r, hr⟩ := pre_iff.mp e
  exact nS_free (c := 43) (by decide) (by decide) i (by rw [hr]; exact List.mem_cons_self ..)
theorem shS_rs {s : Int} (h1 : s ≠ 1) (h2 : s ≠ -1) : Txt.removesuffix (shS s) "*N" = nS s := by
  apply ext_tl
  rw [rs_app (r := tl (nS s)) (by rw [shS_o h1 h2, tl_append, tl_append, tl_e, List.nil_append])]
theorem shS_star {s : Int} (h1 : s ≠ 1) (h2 : s ≠ -1) : 42 ∈ tl (shS s) := by
  rw [shS_o h1 h2, tl_append, tl_sN]
  exact List.mem_append_right _ (List.mem_cons_self ..)
theorem shS_nN {s : Int} (h1 : s ≠ 1) (h2 : s ≠ -1) : shS s ≠ "N" := fun e => by
  have := shS_star h1 h2
  rw [e, tl_N] at this
  revert this; decide
theorem shS_nmN {s : Int} (h1 : s ≠ 1) (h2 : s ≠ -1) : shS s ≠ "-N" := fun e => by
  have := shS_star h1 h2
  rw [e, tl_mN] at this
  revert this; decide
theorem len_app (x y : Str) : (x ++ y).length = x.length + y.length := by rw [len_tl, tl_append, List.length_append, ← len_tl, ← len_tl]
theorem nS_lenB {i : Int} (h : i.natAbs < 2 ^ 200) : (nS i).length ≤ 70 := by
  by_cases q : 0 ≤ i
  · rw [len_tl, nS_pos q]
    have := numL_len (n := i.natAbs) (k := 61) (by decide) (by omega)
    omega
  · rw [len_tl, nS_neg (by omega), List.length_cons]
    have := numL_len (n := i.natAbs) (k := 61) (by decide) (by omega)
    omega
theorem shS_lenB {i : Int} (h : i.natAbs < 2 ^ 200) : (shS i).length ≤ 80 := by
  unfold shS
  split
  · decide +kernel
  · split
    · decide +kernel
    · have := nS_lenB h
      rw [len_app, len_app]
      have e1 : (Str.empty).length = 0 := rfl
      have e2 : ("*N" : Str).length = 2 := by decide +kernel
      omega
theorem lit_lens : (Str.empty).length = 0 ∧ ("*N" : Str).length = 2 ∧ (" + " : Str).length = 3 ∧ (" - " : Str).length = 3 ∧ ("+" : Str).length = 1 ∧ ("-" : Str).length = 1 := ⟨rfl, by decide +kernel, by decide +kernel, by decide +kernel, by decide +kernel, by decide +kernel⟩
theorem shF_lenB {s b : Int} (h : s.natAbs < 2 ^ 200) (g : b.natAbs < 2 ^ 200) : (shF s b).length ≤ 200 := by
  have a1 := nS_lenB g
  have a2 := shS_lenB h
  have a3 : (nS (-b)).length ≤ 70 := nS_lenB (by omega)
  obtain ⟨l1, l2, l3, l4, l5, l6⟩ := lit_lens
  unfold shF
  split
  · omega
  · split
    · simp only [len_app]; omega
    · split
      · simp only [len_app]; omega
      · omega
theorem lg {i : Int} (h : i.natAbs < 2 ^ 200) : i.natAbs.log2 < 1920 := Nat.lt_trans (log2_lt h (by decide)) (by decide)
end Tf
/-! ## counting truths in a list -/
namespace Cnt
open PySem PySem.Spec PyProof.Rows L2
theorem bools_of : ∀ {bs : List Bool} {us : List Value}, Vals (bs.map V.bl) us → us = bs.map Value.bool
  | [], _, .nil => rfl
  | b :: bs, _, .cons r rs => by
    have e1 := bools_of rs
    have e2 : _ = Value.bool b := r
    rw [e2, e1]
    rfl
def isB (k : Bool) : Value → Bool
  | .bool b => b == k
  | _ => false
theorem count_isB (k : Bool) : ∀ bs : List Bool, (bs.map Value.bool).countP (isB k) = bs.count k
  | [] => rfl
  | b :: bs => by
    rw [List.map_cons, List.countP_cons, count_isB k bs, List.count_cons]
    rfl
section
variable {X : Cx}
def rCntB (K : PySem.W.Frag) : V → List V → Hp → VK → Prop := fun x xs H Q => ∃ (p : Addr) (bs : List Bool) (k : Bool), x = .ref p ∧ xs = [.bl k] ∧ SqL K H p (bs.map V.bl) ∧ Q (.int (bs.count k : Nat)) H
theorem mt_countB : MtR X "list.count" (rCntB X.K) := by
  intro pins s σ H x xs vv us Q Inv0 rx rxs told
  obtain ⟨p, bs, k, rfl, rfl, sq, goal⟩ := told
  cases rx
  obtain ⟨u, rfl, ru⟩ := rxs.one
  have eu : u = Value.bool k := ru
  subst eu
  obtain ⟨its, rv, ⟨⟨c0, d0, dat0, sl0⟩, n, at0, ec, ed, edat⟩, len0⟩ := Inv0.list sq
  simp only at ec edat
  subst ec edat
  have es := bools_of rv
  refine call_meets PySem.F.slot_list_count ⟨_, at0, rfl⟩ PySem.F.entry_list_count (PySem.F.args_list_count_2 _ _)
    (SeqAt.list_countAt p its.toArray n d0 sl0 (.bool k) (isB k)) ⟨at0, fun y hy => ?_, ?_⟩
  · have hm : y ∈ bs.map Value.bool := by rw [← es]; simpa using hy
    obtain ⟨b, _, rfl⟩ := List.mem_map.mp hm
    exact SeqAt.EqAt.bool_bool b k
  · have en : its.toArray.toList.countP (isB k) = bs.count k := by
      show its.countP (isB k) = _
      rw [es]
      exact count_isB k bs
    refine ⟨.int (bs.count k : Nat), H, Inv0.tok _, ⟨s.toks, ?_⟩, goal⟩
    show Value.int ((its.toArray.toList.countP (isB k) : Nat) : Int) s.toks = _
    rw [en]
end
end Cnt
/-! ## comprehensions over written sources, item by item; ways joined behind an if -/
namespace Rd
open PySem PySem.Spec PyProof.Rows L2
/-- what is left of a comprehension, item by item; st says that the source stands -/
def Rem (D : Addr) (g : TG) (tt : TT) (te : TE) (vs : List Nat) (σ : L2.St) (st Q : Hp → Prop) : List V → Hp → Prop
  | [], H => st H ∧ Q H
  | x :: r, H => st H ∧ g x (wipe σ vs) H fun σ2 H2 => wipe σ2 vs = wipe σ vs ∧ tt σ2 H2 fun b H3 => if b = true then te σ2 H3 fun y H4 => ∃ acc, H4 D = some (.lst acc) ∧ acc.length < sizeLine ∧ Rem D g tt te vs σ st Q r (upd H4 D (.lst (acc ++ [y]))) else Rem D g tt te vs σ st Q r H3
section
variable {σ : L2.St} {H : Hp} {Q : VK} {K : PySem.W.Frag} {D : Addr} {g : TG} {tt : TT} {te : TE} {vs : List Nat} {st Qd : Hp → Prop}
theorem rem_st {l : List V} (h : Rem D g tt te vs σ st Qd l H) : st H := by cases l <;> exact h.1
theorem remCons {x : V} {r : List V} (h0 : st H) (h : g x (wipe σ vs) H fun σ2 H2 => wipe σ2 vs = wipe σ vs ∧ tt σ2 H2 fun b H3 => if b = true then te σ2 H3 fun y H4 => ∃ acc, H4 D = some (.lst acc) ∧ acc.length < sizeLine ∧ Rem D g tt te vs σ st Qd r (upd H4 D (.lst (acc ++ [y]))) else Rem D g tt te vs σ st Qd r H3) : Rem D g tt te vs σ st Qd (x :: r) H := ⟨h0, h⟩
theorem remNil (h0 : st H) (h : Qd H) : Rem D g tt te vs σ st Qd [] H := ⟨h0, h⟩
theorem drop_at {l : List V} {i : Nat} {x : V} (h : l[i]? = some x) : l.drop i = x :: l.drop (i + 1) := by
  obtain ⟨hi, e⟩ := List.getElem?_eq_some_iff.mp h
  rw [List.drop_eq_getElem_cons hi, e]
/-- over a written list -/
theorem lcUnrL {Qa : Addr → Hp → Prop} {a : Addr} {xs : List V} (hs : SqL K H a xs) (h : ∀ D, H D = none → Rem D g tt te vs σ (fun H' => SqL K H' a xs) (fun H' => Qa D H') xs (upd H D (.lst []))) :
    (∃ xs, SqL K H a xs) ∧ ∀ D, H D = none → ∃ W : Nat → Nat → Hp → Prop, (∃ m, W 0 m (upd H D (.lst []))) ∧ ∀ t m H, W t m H →
      ((Itl K a).stop t H ∧ Qa D H) ∨ ((Itl K a).go t H ∧ ∃ Nx : Hp → Prop, (∀ H', Nx H' → ∃ m', m' < m ∧ W (t + 1) m' H') ∧ ∀ x H', (Itl K a).yld t H x H' → g x (wipe σ vs) H' fun σ2 H2 => wipe σ2 vs = wipe σ vs ∧ tt σ2 H2 fun b H3 =>
        if b = true then te σ2 H3 fun y H4 => ∃ acc, H4 D = some (.lst acc) ∧ acc.length < sizeLine ∧ Nx (upd H4 D (.lst (acc ++ [y]))) else Nx H3) :=
  ⟨⟨_, hs⟩, fun D hD => lc_list (xs := xs) (fun i H' => Rem D g tt te vs σ (fun H' => SqL K H' a xs) (fun H' => Qa D H') (xs.drop i) H') (h D hD) (fun _ _ _ p => rem_st p) (fun i x H' hx p => by rw [drop_at hx] at p; exact p.2) fun H' p => by
    rw [List.drop_length] at p
    exact p.2⟩
/-- over a written tuple -/
theorem lcUnrT {Qa : Addr → Hp → Prop} {a : Addr} {xs : List V} (hs : SqT K H a xs) (h : ∀ D, H D = none → Rem D g tt te vs σ (fun H' => SqT K H' a xs) (fun H' => Qa D H') xs (upd H D (.lst []))) :
    (∃ xs, SqT K H a xs) ∧ ∀ D, H D = none → ∃ W : Nat → Nat → Hp → Prop, (∃ m, W 0 m (upd H D (.lst []))) ∧ ∀ t m H, W t m H →
      ((Itt K a).stop t H ∧ Qa D H) ∨ ((Itt K a).go t H ∧ ∃ Nx : Hp → Prop, (∀ H', Nx H' → ∃ m', m' < m ∧ W (t + 1) m' H') ∧ ∀ x H', (Itt K a).yld t H x H' → g x (wipe σ vs) H' fun σ2 H2 => wipe σ2 vs = wipe σ vs ∧ tt σ2 H2 fun b H3 =>
        if b = true then te σ2 H3 fun y H4 => ∃ acc, H4 D = some (.lst acc) ∧ acc.length < sizeLine ∧ Nx (upd H4 D (.lst (acc ++ [y]))) else Nx H3) :=
  ⟨⟨_, hs⟩, fun D hD => lc_tup (xs := xs) (fun i H' => Rem D g tt te vs σ (fun H' => SqT K H' a xs) (fun H' => Qa D H') (xs.drop i) H') (h D hD) (fun _ _ _ p => rem_st p) (fun i x H' hx p => by rw [drop_at hx] at p; exact p.2) fun H' p => by
    rw [List.drop_length] at p
    exact p.2⟩
/-- the ints of a range -/
def rgV (lo : Int) : Nat → List V
  | 0 => []
  | n + 1 => .int lo :: rgV (lo + 1) n
theorem rgV_at : ∀ (n : Nat) (lo : Int) (i : Nat), i < n → (rgV lo n)[i]? = some (.int (lo + i))
  | n + 1, lo, 0, _ => by simp [rgV]
  | n + 1, lo, i + 1, h => by
    show (rgV (lo + 1) n)[i]? = _
    rw [rgV_at n (lo + 1) i (by omega)]
    congr 2
    omega
theorem rgV_len : ∀ (n : Nat) (lo : Int), (rgV lo n).length = n
  | 0, _ => rfl
  | n + 1, lo => by show (rgV (lo + 1) n).length + 1 = _; rw [rgV_len n]
theorem lcUnrR {Qa : Addr → Hp → Prop} {lo : Int} {n : Nat} (h : ∀ D, H D = none → Rem D g tt te vs σ (fun _ => True) (fun H' => Qa D H') (rgV lo n) (upd H D (.lst []))) :
    ∀ D, H D = none → ∃ W : Nat → Nat → Hp → Prop, (∃ m, W 0 m (upd H D (.lst []))) ∧ ∀ t m H, W t m H →
      ((Itr lo n).stop t H ∧ Qa D H) ∨ ((Itr lo n).go t H ∧ ∃ Nx : Hp → Prop, (∀ H', Nx H' → ∃ m', m' < m ∧ W (t + 1) m' H') ∧ ∀ x H', (Itr lo n).yld t H x H' → g x (wipe σ vs) H' fun σ2 H2 => wipe σ2 vs = wipe σ vs ∧ tt σ2 H2 fun b H3 =>
        if b = true then te σ2 H3 fun y H4 => ∃ acc, H4 D = some (.lst acc) ∧ acc.length < sizeLine ∧ Nx (upd H4 D (.lst (acc ++ [y]))) else Nx H3) :=
  fun D hD => lc_range (lo := lo) (n := n) (fun i H' => Rem D g tt te vs σ (fun _ => True) (fun H' => Qa D H') ((rgV lo n).drop i) H') (h D hD) (fun i H' hi p => by rw [drop_at (rgV_at n lo i hi)] at p; exact p.2) fun H' p => by
    rw [List.drop_of_length_le (by rw [rgV_len]; exact Nat.le_refl _)] at p
    exact p.2
theorem yes {q : Bool → Hp → Prop} (h : q true H) : tYes σ H q := h
/-- two ways of an if that meet -/
theorem ifJ {D : Ends} {c : TT} {t u : TS} (J : L2.St → Hp → Prop) (h1 : (∀ σ' H', J σ' H' → D.nx σ' H') → tIfS c t u D σ H) (h2 : ∀ σ' H', J σ' H' → D.nx σ' H') : tIfS c t u D σ H := h1 h2
/-- a heap known by facts alone, from here on -/
theorem comp {t : TS} {D : Ends} (P : Hp → Prop) (h0 : P H) (h : ∀ H', P H' → t D σ H') : t D σ H := h H h0
theorem truB {b : Bool} (e : b = true) (h : Q (.bl true) H) : Q (.bl b) H := by rw [e]; exact h
theorem cnt3 {p : Addr} {x y z k : Bool} (e : SqL K H p [.bl x, .bl y, .bl z]) (h : Q (.int (([x, y, z].count k : Nat) : Int)) H) : Cnt.rCntB K (.ref p) [.bl k] H Q := ⟨p, [x, y, z], k, rfl, rfl, e, h⟩
theorem feqF {a b c d : Int} (h1 : a = b) (h2 : c = d) : (!(decide (V.int a = V.int b) && decide (V.int c = V.int d))) = false := by
  rw [h1, h2, decide_eq_true rfl, decide_eq_true rfl]; rfl
theorem feqT {a b c d : Int} (h1 : a = b) (h2 : c = d) : (decide (V.int a = V.int b) && decide (V.int c = V.int d)) = true := by
  rw [h1, h2, decide_eq_true rfl, decide_eq_true rfl]; rfl
theorem neB {x y : Bool} (h : x = y) : (!decide (V.bl x = V.bl y)) = false := by rw [h, decide_eq_true rfl]; rfl
theorem tri (a b c d : Int) : (!decide (V.int (([decide (a < c ∨ a = c ∧ b < d), (decide (V.int a = V.int c) && decide (V.int b = V.int d)), decide (c < a ∨ c = a ∧ d < b)].count true : Nat) : Int) = V.int 1)) = false := by
  have e1 : decide (V.int a = V.int c) = decide (a = c) := by simp only [V.int.injEq]
  have e2 : decide (V.int b = V.int d) = decide (b = d) := by simp only [V.int.injEq]
  rw [e1, e2]
  rcases (by omega : a < c ∨ c < a ∨ (a = c ∧ b < d) ∨ (a = c ∧ d < b) ∨ (a = c ∧ b = d)) with h | h | ⟨h, g⟩ | ⟨h, g⟩ | ⟨h, g⟩
  · rw [decide_eq_true (show a < c ∨ a = c ∧ b < d by omega), decide_eq_false (show ¬ a = c by omega), decide_eq_false (show ¬ (c < a ∨ c = a ∧ d < b) by omega)]; rfl
  · rw [decide_eq_false (show ¬ (a < c ∨ a = c ∧ b < d) by omega), decide_eq_false (show ¬ a = c by omega), decide_eq_true (show (c < a ∨ c = a ∧ d < b) by omega)]; rfl
  · rw [decide_eq_true (show a < c ∨ a = c ∧ b < d by omega), decide_eq_false (show ¬ b = d by omega), Bool.and_false, decide_eq_false (show ¬ (c < a ∨ c = a ∧ d < b) by omega)]; rfl
  · rw [decide_eq_false (show ¬ (a < c ∨ a = c ∧ b < d) by omega), decide_eq_false (show ¬ b = d by omega), Bool.and_false, decide_eq_true (show (c < a ∨ c = a ∧ d < b) by omega)]; rfl
  · rw [decide_eq_false (show ¬ (a < c ∨ a = c ∧ b < d) by omega), decide_eq_true h, decide_eq_true g, decide_eq_false (show ¬ (c < a ∨ c = a ∧ d < b) by omega)]; rfl
theorem stepLt {a b c d t : Int} (h : 0 < t) : decide (a * t < c * t ∨ a * t = c * t ∧ b * t < d * t) = decide (a < c ∨ a = c ∧ b < d) := by
  have m1 : a * t < c * t ↔ a < c := Int.mul_lt_mul_right h
  have m2 : b * t < d * t ↔ b < d := Int.mul_lt_mul_right h
  have m3 : a * t = c * t ↔ a = c := ⟨fun e => Int.eq_of_mul_eq_mul_right (by omega) e, fun e => by rw [e]⟩
  rw [decide_eq_decide, m1, m2, m3]
theorem stepGt {a b c d t : Int} (h : 0 < t) : decide (a * (0 - t) < c * (0 - t) ∨ a * (0 - t) = c * (0 - t) ∧ b * (0 - t) < d * (0 - t)) = decide (c < a ∨ c = a ∧ d < b) := by
  have n : ∀ x : Int, x * (0 - t) = -(x * t) := fun x => by rw [Int.zero_sub, Int.mul_neg]
  have m1 : a * (0 - t) < c * (0 - t) ↔ c < a := by rw [n, n, Int.neg_lt_neg_iff]; exact Int.mul_lt_mul_right h
  have m2 : b * (0 - t) < d * (0 - t) ↔ d < b := by rw [n, n, Int.neg_lt_neg_iff]; exact Int.mul_lt_mul_right h
  have m3 : a * (0 - t) = c * (0 - t) ↔ c = a := ⟨fun e => (Int.eq_of_mul_eq_mul_right (by omega) e).symm, fun e => by rw [e]⟩
  rw [decide_eq_decide, m1, m2, m3]
end
end Rd
/-! ## schemes: words, dicts, written tuples, calls by keywords -/
namespace Rd
open PySem PySem.Spec PyProof.Rows L2
section
variable {σ : L2.St} {H : Hp} {Q : VK} {D : Ends} {K : PySem.W.Frag}
theorem mkK {C : Addr} {m : Nat} {sp : Sp} {gV : List V → List V → List V} {E : XK} {tk : TA} (h : tk σ H fun zs H2 => ([] : List V).length = 0 ∧ zs.length = m ∧ ∀ x dx, H2 x = none → H2 dx = none → dx ≠ x →
    sp (gV (.ref x :: []) zs) (upd (upd H2 dx (.own x)) x (.ins C dx [])) (fun v H3 => v = .non ∧ Q (.ref x) H3) E) : tMakeK C 0 m sp gV E tNil tk σ H Q := h
theorem dget {td ty : TE} (h : td σ H fun x H1 => ty σ H1 fun y H2 => ∃ a v, x = .ref a ∧ DGet H2 a y (some v) ∧ Q v H2) : tDGet td ty σ H Q := h
theorem dget2 {a : Addr} {kvs : List (Key × V)} {z : Str} {v : V} {R : V → Prop} (e : H a = some (.dK kvs)) (l : valV kvs (.inr z) = some v) (h : R v) : ∃ a' v, V.ref a = .ref a' ∧ DGet H a' (.str z) (some v) ∧ R v :=
  ⟨a, v, rfl, by have := DGet.k (k := Sum.inr z) e; rw [l] at this; exact this, h⟩
/-- a written tuple, whatever the heap -/
def SqTK (K : PySem.W.Frag) (a : Addr) (xs : List V) : Prop := ∀ H, SqT K H a xs
theorem SqTK.get {a : Addr} {xs : List V} (h : SqTK K a xs) : SqT K H a xs := h H
theorem inW {s : Str} {ws : List Str} (h : s ∈ ws) : inV (.str s) (ws.map V.str) = true := by
  unfold inV
  rw [List.any_eq_true]
  exact ⟨.str s, List.mem_map.mpr ⟨s, h, rfl⟩, by simp [eqV]⟩
theorem pickAny {a : Addr} {xs : List V} {d : Int} (e : SqL K H a xs) (h0 : 0 ≤ d) (h1 : d < (xs.length : Int)) (k : ∀ v, v ∈ xs → Q v H) : rIxL K (.ref a) (.int d) H Q := by
  obtain ⟨j, rfl⟩ : ∃ j : Nat, d = (j : Int) := ⟨d.toNat, by omega⟩
  have hj : j < xs.length := by omega
  exact ixL e (atI_nat (List.getElem?_eq_getElem hj)) (k _ (List.getElem_mem hj))
theorem bits {to : TE} (h : to σ H fun x H1 => ∃ i, x = .int i ∧ Q (.int (Builtin.Int.intBits i : Nat)) H1) : tBits to σ H Q := h
theorem tru {ta : TE} {q : Bool → Hp → Prop} (h : ta σ H fun x H' => ∃ k, TruV K x H' k ∧ q k H') : (fun σ H Q => ta σ H fun x H' => ∃ k, TruV K x H' k ∧ Q k H' : TT) σ H q := h
theorem truI {i : Int} : TruV K (.int i) H (i != 0) := rfl
theorem rng2 {ta : TA} {R : It → Hp → Prop} (h : ta σ H fun vs H1 => ∃ i j : Int, vs = [.int i, .int j] ∧ (-(2 ^ 62) ≤ i ∧ i < 2 ^ 62 ∧ -(2 ^ 62) ≤ j ∧ j < 2 ^ 62) ∧ R (Itr i (j - i).toNat) H1) : iRng2 ta σ H R := h
theorem notF {b : Bool} (h : b = true) : (!b) = false := by rw [h]; rfl
theorem inT {p : Addr} {x : V} {xs : List V} (e : SqL K H p xs ∨ SqT K H p xs) (f1 : flatV x = true) (f2 : xs.all flatV = true) (h : Q (.bl (inV x xs)) H) : rIn K false x (.ref p) H Q := ⟨p, xs, rfl, e, f1, f2, h⟩
theorem kt_int_int {K : PySem.W.Frag} : PySem.W.kitOne K (.type "int") (.type "int") = some true := kit_ty (by decide +kernel)
theorem kt_int_bool {K : PySem.W.Frag} : PySem.W.kitOne K (.type "int") (.type "bool") = some false := kit_ty (by decide +kernel)
theorem kt_int_str {K : PySem.W.Frag} : PySem.W.kitOne K (.type "int") (.type "str") = some false := kit_ty (by decide +kernel)
theorem kt_int_tuple {K : PySem.W.Frag} : PySem.W.kitOne K (.type "int") (.type "tuple") = some false := kit_ty (by decide +kernel)
theorem kt_int_list {K : PySem.W.Frag} : PySem.W.kitOne K (.type "int") (.type "list") = some false := kit_ty (by decide +kernel)
theorem kt_int_dict {K : PySem.W.Frag} : PySem.W.kitOne K (.type "int") (.type "dict") = some false := kit_ty (by decide +kernel)
theorem kt_bool_int {K : PySem.W.Frag} : PySem.W.kitOne K (.type "bool") (.type "int") = some true := kit_ty (by decide +kernel)
theorem kt_bool_bool {K : PySem.W.Frag} : PySem.W.kitOne K (.type "bool") (.type "bool") = some true := kit_ty (by decide +kernel)
theorem kt_bool_str {K : PySem.W.Frag} : PySem.W.kitOne K (.type "bool") (.type "str") = some false := kit_ty (by decide +kernel)
theorem kt_bool_tuple {K : PySem.W.Frag} : PySem.W.kitOne K (.type "bool") (.type "tuple") = some false := kit_ty (by decide +kernel)
theorem kt_bool_list {K : PySem.W.Frag} : PySem.W.kitOne K (.type "bool") (.type "list") = some false := kit_ty (by decide +kernel)
theorem kt_bool_dict {K : PySem.W.Frag} : PySem.W.kitOne K (.type "bool") (.type "dict") = some false := kit_ty (by decide +kernel)
theorem kt_str_int {K : PySem.W.Frag} : PySem.W.kitOne K (.type "str") (.type "int") = some false := kit_ty (by decide +kernel)
theorem kt_str_bool {K : PySem.W.Frag} : PySem.W.kitOne K (.type "str") (.type "bool") = some false := kit_ty (by decide +kernel)
theorem kt_str_str {K : PySem.W.Frag} : PySem.W.kitOne K (.type "str") (.type "str") = some true := kit_ty (by decide +kernel)
theorem kt_str_tuple {K : PySem.W.Frag} : PySem.W.kitOne K (.type "str") (.type "tuple") = some false := kit_ty (by decide +kernel)
theorem kt_str_list {K : PySem.W.Frag} : PySem.W.kitOne K (.type "str") (.type "list") = some false := kit_ty (by decide +kernel)
theorem kt_str_dict {K : PySem.W.Frag} : PySem.W.kitOne K (.type "str") (.type "dict") = some false := kit_ty (by decide +kernel)
theorem kt_NoneType_int {K : PySem.W.Frag} : PySem.W.kitOne K (.type "NoneType") (.type "int") = some false := kit_ty (by decide +kernel)
theorem kt_NoneType_bool {K : PySem.W.Frag} : PySem.W.kitOne K (.type "NoneType") (.type "bool") = some false := kit_ty (by decide +kernel)
theorem kt_NoneType_str {K : PySem.W.Frag} : PySem.W.kitOne K (.type "NoneType") (.type "str") = some false := kit_ty (by decide +kernel)
theorem kt_NoneType_tuple {K : PySem.W.Frag} : PySem.W.kitOne K (.type "NoneType") (.type "tuple") = some false := kit_ty (by decide +kernel)
theorem kt_NoneType_list {K : PySem.W.Frag} : PySem.W.kitOne K (.type "NoneType") (.type "list") = some false := kit_ty (by decide +kernel)
theorem kt_NoneType_dict {K : PySem.W.Frag} : PySem.W.kitOne K (.type "NoneType") (.type "dict") = some false := kit_ty (by decide +kernel)
theorem kt_tuple_int {K : PySem.W.Frag} : PySem.W.kitOne K (.type "tuple") (.type "int") = some false := kit_ty (by decide +kernel)
theorem kt_tuple_bool {K : PySem.W.Frag} : PySem.W.kitOne K (.type "tuple") (.type "bool") = some false := kit_ty (by decide +kernel)
theorem kt_tuple_str {K : PySem.W.Frag} : PySem.W.kitOne K (.type "tuple") (.type "str") = some false := kit_ty (by decide +kernel)
theorem kt_tuple_tuple {K : PySem.W.Frag} : PySem.W.kitOne K (.type "tuple") (.type "tuple") = some true := kit_ty (by decide +kernel)
theorem kt_tuple_list {K : PySem.W.Frag} : PySem.W.kitOne K (.type "tuple") (.type "list") = some false := kit_ty (by decide +kernel)
theorem kt_tuple_dict {K : PySem.W.Frag} : PySem.W.kitOne K (.type "tuple") (.type "dict") = some false := kit_ty (by decide +kernel)
theorem kt_list_int {K : PySem.W.Frag} : PySem.W.kitOne K (.type "list") (.type "int") = some false := kit_ty (by decide +kernel)
theorem kt_list_bool {K : PySem.W.Frag} : PySem.W.kitOne K (.type "list") (.type "bool") = some false := kit_ty (by decide +kernel)
theorem kt_list_str {K : PySem.W.Frag} : PySem.W.kitOne K (.type "list") (.type "str") = some false := kit_ty (by decide +kernel)
theorem kt_list_tuple {K : PySem.W.Frag} : PySem.W.kitOne K (.type "list") (.type "tuple") = some false := kit_ty (by decide +kernel)
theorem kt_list_list {K : PySem.W.Frag} : PySem.W.kitOne K (.type "list") (.type "list") = some true := kit_ty (by decide +kernel)
theorem kt_list_dict {K : PySem.W.Frag} : PySem.W.kitOne K (.type "list") (.type "dict") = some false := kit_ty (by decide +kernel)
theorem kt_dict_int {K : PySem.W.Frag} : PySem.W.kitOne K (.type "dict") (.type "int") = some false := kit_ty (by decide +kernel)
theorem kt_dict_bool {K : PySem.W.Frag} : PySem.W.kitOne K (.type "dict") (.type "bool") = some false := kit_ty (by decide +kernel)
theorem kt_dict_str {K : PySem.W.Frag} : PySem.W.kitOne K (.type "dict") (.type "str") = some false := kit_ty (by decide +kernel)
theorem kt_dict_tuple {K : PySem.W.Frag} : PySem.W.kitOne K (.type "dict") (.type "tuple") = some false := kit_ty (by decide +kernel)
theorem kt_dict_list {K : PySem.W.Frag} : PySem.W.kitOne K (.type "dict") (.type "list") = some false := kit_ty (by decide +kernel)
theorem kt_dict_dict {K : PySem.W.Frag} : PySem.W.kitOne K (.type "dict") (.type "dict") = some true := kit_ty (by decide +kernel)
theorem inW_iff {s : Str} {ws : List Str} : inV (.str s) (ws.map V.str) = decide (s ∈ ws) := by
  by_cases h : s ∈ ws
  · rw [inW h, decide_eq_true h]
  · rw [decide_eq_false h, Bool.eq_false_iff]
    intro e
    unfold inV at e
    rw [List.any_eq_true] at e
    obtain ⟨x, hx, e⟩ := e
    obtain ⟨t, ht, rfl⟩ := List.mem_map.mp hx
    have : t = s := by simpa [eqV] using e
    exact h (this ▸ ht)
theorem flatW (ws : List Str) : (ws.map V.str).all flatV = true := by
  rw [List.all_eq_true]
  intro x hx
  obtain ⟨t, _, rfl⟩ := List.mem_map.mp hx
  rfl
/-- a loop over a tuple that is known whole, turn by turn -/
def unrT (K : PySem.W.Frag) (a : Addr) (all : List V) (g : TG) (tb : TS) (D : Ends) : List V → L2.St → Hp → Prop
  | [], σ, H => D.nx σ H
  | x :: xs, σ, H => g x σ H fun σ2 H2 => tb { D with nx := fun σ' H' => SqT K H' a all ∧ unrT K a all g tb D xs σ' H', ct := fun σ' H' => SqT K H' a all ∧ unrT K a all g tb D xs σ' H', bk := D.nx } σ2 H2
theorem unrollT {a : Addr} {all : List V} {g : TG} {tb : TS} (h0 : SqT K H a all) (h : unrT K a all g tb D all σ H) :
    (∃ xs, SqT K H a xs) ∧ ∃ W : Nat → Nat → L2.St → Hp → Prop, (∃ m, W 0 m σ H) ∧ ∀ i m σ H, W i m σ H →
      ((Itt K a).stop i H ∧ D.nx σ H) ∨ ((Itt K a).go i H ∧ ∃ N : L2.St → Hp → Prop, (∀ σ' H', N σ' H' → ∃ m', m' < m ∧ W (i + 1) m' σ' H') ∧ ∀ x H', (Itt K a).yld i H x H' → g x σ H' fun σ2 H2 => tb { D with nx := N, ct := N, bk := D.nx } σ2 H2) := by
  refine ⟨⟨_, h0⟩, for_tup (xs := all) (fun i σ H => SqT K H a all ∧ unrT K a all g tb D (all.drop i) σ H) ⟨h0, h⟩ (fun i σ H _ p => p.1) (fun i x σ H hx p => ?_) (fun σ H p => ?_)⟩
  · have q := p.2
    rw [drop_at hx] at q
    exact q
  · have q := p.2
    rw [List.drop_length] at q
    exact q
theorem unrTCons {a : Addr} {all : List V} {g : TG} {tb : TS} {x : V} {xs : List V}
    (h : g x σ H fun σ2 H2 => tb { D with nx := fun σ' H' => SqT K H' a all ∧ unrT K a all g tb D xs σ' H', ct := fun σ' H' => SqT K H' a all ∧ unrT K a all g tb D xs σ' H', bk := D.nx } σ2 H2) : unrT K a all g tb D (x :: xs) σ H := h
theorem unrTNil {a : Addr} {all : List V} {g : TG} {tb : TS} (h : D.nx σ H) : unrT K a all g tb D [] σ H := h
/-- five written texts as keys -/
theorem disp5 {t1 t2 t3 t4 t5 : TE} {v1 v2 v3 v4 v5 : V} {k1 k2 k3 k4 k5 : Str} (h1 : ∀ H (R : VK), R v1 H → t1 σ H R) (h2 : ∀ H (R : VK), R v2 H → t2 σ H R) (h3 : ∀ H (R : VK), R v3 H → t3 σ H R) (h4 : ∀ H (R : VK), R v4 H → t4 σ H R) (h5 : ∀ H (R : VK), R v5 H → t5 σ H R)
    (h : ∀ p, H p = none → Q (.ref p) (upd H p (.dK (mergeK [] [(.inr k1, v1), (.inr k2, v2), (.inr k3, v3), (.inr k4, v4), (.inr k5, v5)])))) : tDisp [(tC (.str k1), t1), (tC (.str k2), t2), (tC (.str k3), t3), (tC (.str k4), t4), (tC (.str k5), t5)] σ H Q := by
  intro p np
  refine h1 _ _ (h2 _ _ (h3 _ _ (h4 _ _ (h5 _ _ ?_))))
  refine ⟨upd_same, [(.inr k1, v1), (.inr k2, v2), (.inr k3, v3), (.inr k4, v4), (.inr k5, v5)], rfl, Nat.le_of_ble_eq_true rfl, ?_⟩
  rw [upd_upd]
  exact h p np
theorem ixTK {X : Cx} {K : PySem.W.Frag} (e : X.K = K) : IxR X (rIxT K) := e ▸ ix_tup
theorem ixLK {X : Cx} {K : PySem.W.Frag} (e : X.K = K) : IxR X (rIxL K) := e ▸ ix_list
theorem tp0 {R : List (V × V) → Hp → Prop} (h : R [] H) : tPairs [] σ H R := h
theorem tp1 {tk tv : TE} {r : List (TE × TE)} {R : List (V × V) → Hp → Prop} (h : tk σ H fun x H1 => tv σ H1 fun y H2 => tPairs r σ H2 fun ps H3 => R ((x, y) :: ps) H3) : tPairs ((tk, tv) :: r) σ H R := h
theorem callS {sp : Sp} {E : L2.St → XK} {t : TA} (h : t σ H fun vs H1 => sp vs H1 Q (E σ)) : tCallS sp E t σ H Q := h
end
end Rd
/-! ## a caught error handed to a def: it stays pinned while the def runs -/
namespace Er
open PySem PySem.Spec PyProof.Rows L2 L2H
/-- a def that is called while an exception is handled, p that exception's object (its promise may speak of it); it lets nothing out -/
structure FnE (P : Program) (w : World) (K : PySem.W.Frag) (mg : Str → Option Value) (base : Heap) (k : Nat) (f : Addr) (fd : FuncData) (ps : List Str) (sp : Addr × Obj → Sp) : Prop where
  len : ∀ p vs H Q E, sp p vs H Q E → vs.length = ps.length
  run : ∀ (A : Around) (outer : List Env) (s : Shared) (H : Hp) (args : Args) (us : List Value) (vs : List V) (Q : VK) (p : Addr × Obj), RoomH k A → PinOk outer H s p → Env0 P w K mg base A outer s H → BindsTo s fd args (ps.zip us) → Vals vs us → sp p vs H Q E0 →
    codeAny (model P w) A (.call (.ref f) args) (CR CX0 outer P w H s Q E0) s
theorem okE {P : Program} {w : World} {K : PySem.W.Frag} {mg : Str → Option Value} {base : Heap} {x qual : Str} {st : Stmt} {f : Addr} {fd : FuncData} {N ps : List Str} {k : Nat} {sp : Addr × Obj → Sp} (F : Fun K x qual st f fd) (S : FnScope N ps (defScope st))
    (len : ∀ p vs H Q E, sp p vs H Q E → vs.length = ps.length)
    (body : ∀ (cdv : Value) (A : Around) (outer : List Env) (s : Shared) (H : Hp) (vs : List V) (Q : VK) (p : Addr × Obj), RoomH k (A.deeper (envOfC qual (defScope st) s.heap.objs.size f cdv)) → sp p vs H Q E0 →
      ∃ t, PSs (cxH CX0 P w K mg base N qual (defScope st) f cdv A outer s H E0 p) (defBody st) t ∧ t { nx := fun _ H' => Q .non H', rt := Q } (L2.start N vs) H) : FnE P w K mg base (k + 1) f fd ps sp := by
  obtain ⟨oc, od, kV, doc, pm, an, cdv, ct, osl, rfl, lk, hcd⟩ := F.ex
  constructor
  · exact len
  intro A outer s H args us vs Q p hr pin e0 hb r hsp
  have old : ∀ b o, base.get? b = some o → s.heap.get? b = some o := fun b o e => (e0.bs b o e).1
  have KX : K.In s.heap := e0.mod.kin.keeps old
  have lim : s.heap.NoLimit := e0.mod.nolimit.keeps old
  have kinds : ∀ y ∈ ps.zip us, (defScope st).names.lookup y.1 = some .local ∨ ((defScope st).names.lookup y.1 = some .cell ∧ ((cellsFrom (s.heap.objs.size + 1) (defScope st).names []).lookup y.1).isSome = true) := by
    rintro ⟨n, v⟩ hy
    rcases S.par n (List.of_mem_zip hy).1 with q | q
    · exact .inl q
    · exact .inr ⟨q, PySem.W.cellsFrom_some _ _ _ (.inl q)⟩
  apply codeAny_call_function hr.depth (KX _ _ lk) rfl S.co S.gen rfl (PySem.W.codeRec_of KX hcd) (hb _ _ _ _ _)
  apply wpAny_newFunctionEnv_cells S.kind kinds
  rintro env rfl s1 z
  obtain ⟨t, ht, hq⟩ := body cdv A outer s H vs Q p (hr.deeper _) hsp
  have I := inv_startH (CX := CX0) (E := E0) (P := P) (w := w) (mg := mg) (f := f) (cd := cdv) (qual := qual) S pin e0 (len _ _ _ _ _ hsp) r z
  refine ⟨lim.keeps z.toInCall.keep, codeAny_func (wpAny_mono (ht.run [] s1 (L2.start N vs) H _ I hq) ?_ fun e s' hs => hs)⟩
  rintro (_ | _ | _ | u) s' hs
  · obtain ⟨σ', H', J, q⟩ := hs
    exact ⟨.non, H', J.os, J.bare, J.base, J.hok, rfl, q⟩
  · obtain ⟨_, _, _, q⟩ := hs
    exact q.elim
  · obtain ⟨_, _, _, q⟩ := hs
    exact q.elim
  · obtain ⟨v, σ', H', J, rv, q⟩ := hs
    exact ⟨v, H', J.os, J.bare, J.base, J.hok, rv, q⟩
theorem roomS {k : Nat} {A : Around} {h : Option Value} (r : Room k A) : RoomH k (A.mark h) := ⟨r.dp, r.un⟩
/-- f(e), e the exception that the suite holds -/
def tCallE (sp : Addr × Obj → Sp) (a : Addr) (cls : Value) (d : Option Addr) (i : Nat) : TE := fun σ H Q => σ[i]? = some (some (.ref a)) ∧ ∀ oe, Zc cls d oe → (∃ vs, oe.data = .fields vs) → sp (a, oe) [.ref a] H Q E0
theorem pe_callE {P : Program} {w : World} {K : PySem.W.Frag} {mg : Str → Option Value} {base : Heap} {X : Cx} {k i : Nat} {f a : Addr} {fd : FuncData} {ps : List Str} {sp : Addr × Obj → Sp} {x n : Str} {p1 p2 pos : Pos} {oe : Obj} {cls : Value} {d : Option Addr} (e1 : X.prog = P) (e2 : X.w = w) (e3 : X.K = K) (e4 : X.mg = mg) (e5 : X.base = base)
    (F : FnE P w K mg base k f fd ps sp) (hz : Zc cls d oe) (hf : ∃ vs, oe.data = .fields vs) (hp : (a, oe) ∈ X.pn) (hr : RoomH k X.A) (hg : Gl X x) (hm : mg x = some (.ref f)) (hk : PySem.W.keepIn K (.ref f) = true) (hb : Binds K fd ps [])
    (hN : X.N[i]? = some n) (hv : Vis X.env.scope n) (h1 : (n == ("__debug__" : Str)) = false := by decide) (h2 : (n == ("__classdict__" : Str)) = false := by decide) (hdb : (x == ("__debug__" : Str)) = false := by decide)
    (he : starEach [Expr.Name n p2] X.env = (false, eval (Expr.Name n p2) X.env) :: starEach [] X.env := by rfl) (hpl : (backTo pos (starEach [] X.env)).any (·.1) = false := by rfl) : PE X (.Call (.Name x p1) [.Name n p2] [] pos) (tCallE sp a cls d i) := by
  subst e1 e2 e3 e4 e5
  constructor
  rintro pins s σ H Q I ⟨at_, h⟩
  have A1 : PA X [Expr.Name n p2] (tCons (tVar i) tNil) := pa_cons (pe_var hN hv h1 h2) pa_nil
  apply wpAny_Call_Name_kw
  refine ld_glob I hg hm ?_ hdb
  refine PySem.W.callWith_K (h₀ := X.base) I.ok.mod.kin hk (thn (A1.run pos pins s σ H (fun vs H1 => vs = [.ref a] ∧ H1 = H) I ⟨_, at_, rfl, rfl⟩) ?_) he hpl
  rintro us s1 ⟨vs, H1, I1, r, rfl, rfl⟩
  refine ⟨I1.kIn, ?_⟩
  have sp1 := h oe hz hf
  have hl : us.length = ps.length := by rw [← r.length]; exact F.len _ _ _ _ _ sp1
  have b := hb s1 us I1.kIn (by rw [List.append_nil]; exact hl)
  rw [List.append_nil] at b
  obtain ⟨g1, g2, g3, g4, g5⟩ := I1.pin (a, oe) (List.mem_append_left _ hp)
  have pin : PinOk X.stack H1 s1 (a, oe) := ⟨g1, g2, fun z => (List.mem_cons.mp (I1.stkSub a z)).elim g3 g4, g5⟩
  refine wpAny_call (codeAny_mono (F.run X.A X.stack s1 H1 ⟨us, []⟩ us _ Q (a, oe) hr pin I1.env0 b r sp1) ?_)
  rintro (e | (_ | _ | _ | u)) s2 hq
  · exact hq.elim
  · exact hq.elim
  · exact hq.elim
  · exact hq.elim
  · exact I1.after hq
/-- isinstance(e, c), (c1, c2, ..) of the error that is pinned -/
def rIsP (K : PySem.W.Frag) (p : Addr × Obj) : List V → Hp → VK → Prop := fun xs H Q => ∃ (D : Addr) (c : V) (u : Value) (b : Bool), xs = [.ref p.1, c] ∧ Zc (.ref D) none p.2 ∧ (∃ vs, p.2.data = .fields vs) ∧ ExcC K D ∧ ClsV c u ∧ PySem.W.kitOne K (.ref D) u = some b ∧ Q (.bl b) H
def rIsPT (K : PySem.W.Frag) (p : Addr × Obj) : List V → Hp → VK → Prop := fun xs H Q => ∃ (D tp : Addr) (cs : List V) (us : List Value) (b : Bool), xs = [.ref p.1, .ref tp] ∧ H tp = some (.tup cs) ∧ Paired ClsV cs us ∧ Zc (.ref D) none p.2 ∧ (∃ vs, p.2.data = .fields vs) ∧ ExcC K D ∧ PySem.W.kitAny K (.ref D) us = some b ∧ Q (.bl b) H
theorem inst {X : Cx} {pins : List (Addr × Obj)} {s : Shared} {σ : L2.St} {H : Hp} {p : Addr × Obj} {D : Addr} (I : Inv X pins σ H s) (hp : p ∈ X.pn) (hz : Zc (.ref D) none p.2) (hf : ∃ vs, p.2.data = .fields vs) : PySem.W.InstAt s.heap p.1 p.2 D none := by
  obtain ⟨a, oc, od, dt, sl⟩ := p
  obtain ⟨g, _⟩ := I.pin _ (List.mem_append_left _ hp)
  obtain ⟨vs, hv⟩ := hf
  obtain ⟨h1, h2⟩ := hz
  dsimp only at h1 h2 hv
  subst h1 h2 hv
  exact ⟨g, rfl, rfl, trivial⟩
theorem call_isP {X : Cx} {K : PySem.W.Frag} {p : Addr × Obj} (eK : X.K = K) (hp : p ∈ X.pn) : CallR X (.builtin "isinstance") (rIsP K p) := by
  subst eK
  rintro pins s σ H xs us Q I r ⟨D, c, u, b, rfl, hz, hf, C, kc, e, q⟩
  obtain ⟨u1, u2, rfl, r1, r2⟩ := vals2 r
  cases (show u1 = Value.ref p.1 from r1)
  have e2 := kc.eq r2
  subst e2
  exact PySem.W.kia_one (PySem.W.handS_kitx_exc C.hg C.hk C.hs C.hd C.ha C.hn C.ht C.hm) I.kIn (inst I hp hz hf) e (fun z => nomatch z) fun tk => ⟨.bl b, H, I.tok tk, rfl, q⟩
theorem call_isPT {X : Cx} {K : PySem.W.Frag} {p : Addr × Obj} (eK : X.K = K) (hp : p ∈ X.pn) : CallR X (.builtin "isinstance") (rIsPT K p) := by
  subst eK
  rintro pins s σ H xs us Q I r ⟨D, tp, cs, ws, b, rfl, hT, kc, hz, hf, C, e, q⟩
  obtain ⟨u1, u2, rfl, r1, r2⟩ := vals2 r
  cases (show u1 = Value.ref p.1 from r1)
  cases (show u2 = Value.ref tp from r2)
  obtain ⟨_, its, rv, o, h1, h2, n, h3⟩ := (show ObjOk X.prog X.w H s.heap tp (.tup cs) from I.hok tp _ hT)
  have e3 := ClsV.all kc rv
  subst e3
  obtain ⟨oc, od, dt, sl⟩ := o
  simp only at h2 h3
  subst h2 h3
  exact PySem.W.kia_tup (PySem.W.handS_kitx_exc C.hg C.hk C.hs C.hd C.ha C.hn C.ht C.hm) I.kIn (inst I hp hz hf) h1 e (fun z => nomatch z) fun tk => ⟨.bl b, H, I.tok tk, rfl, q⟩
theorem any2 {K : PySem.W.Frag} {t u1 u2 : Value} (h1 : PySem.W.kitOne K t u1 = some false) (h2 : PySem.W.kitOne K t u2 = some false) : PySem.W.kitAny K t [u1, u2] = some false := by
  simp only [PySem.W.kitAny, h1, h2]
end Er
namespace Rd
open PySem PySem.Spec PyProof.Rows L2
theorem callE {sp : Addr × Obj → Sp} {a : Addr} {cls : Value} {d : Option Addr} {i : Nat} {σ : L2.St} {H : Hp} {Q : VK} (h1 : σ[i]? = some (some (.ref a))) (h : ∀ oe, Zc cls d oe → (∃ vs, oe.data = .fields vs) → sp (a, oe) [.ref a] H Q E0) : Er.tCallE sp a cls d i σ H Q := ⟨h1, h⟩
end Rd
/-! ## slices, lists again and again, lists of truths -/
namespace Rd
open PySem PySem.Spec PyProof.Rows L2
section
variable {σ : L2.St} {H : Hp} {Q : VK} {K : PySem.W.Frag}
theorem sl {r : V → Option Int → Option Int → Hp → VK → Prop} {te : TE} {tl th : TO} (h : te σ H fun x H1 => tl σ H1 fun l H2 => th σ H2 fun u H3 => r x l u H3 Q) : tSl r te tl th σ H Q := h
theorem noPart {R : Option Int → Hp → Prop} (h : R none H) : tNoPart σ H R := h
theorem part {te : TE} {R : Option Int → Hp → Prop} (h : te σ H fun x H1 => ∃ i, x = .int i ∧ R (some i) H1) : tPart te σ H R := h
theorem cut_take {xs : List V} {k : Nat} (h : k ≤ xs.length) : cutV xs none (some (k : Int)) = xs.take k := by
  unfold cutV
  have e0 : HT.sIx xs.length 0 none = 0 := rfl
  have e1 : HT.sIx xs.length xs.length (some (k : Int)) = k := by
    unfold HT.sIx
    have z : ¬ ((k : Int) < 0) := by omega
    simp [z]
    omega
  rw [e0, e1, List.drop_zero, Nat.sub_zero]
theorem dp_bools : ∀ (H : Hp) (bs : List Bool), DpAll K H (bs.map V.bl) (bs.map PyData.bool)
  | _, [] => .nil
  | H, _ :: r => .cons (.bl _) (dp_bools H r)
theorem dp_listB {H : Hp} {a : Addr} {bs : List Bool} (h : SqL K H a (bs.map V.bl)) : Dp K H (.ref a) (.list (bs.map PyData.bool)) := .lst h (dp_bools H bs)
theorem can_bools : ∀ bs : List Bool, PyData.canLayAll0 (bs.map PyData.bool) = true
  | [] => by simp [PyData.canLayAll0]
  | _ :: r => by simp only [List.map_cons, PyData.canLayAll0, PyData.canLay0, can_bools r, Bool.and_self]
theorem dep_bools : ∀ bs : List Bool, PyData.depthAll (bs.map PyData.bool) = 0
  | [] => by simp [PyData.depthAll]
  | _ :: r => by simp only [List.map_cons, PyData.depthAll, PyData.depth, dep_bools r, Nat.max_self]
theorem shaped_listB (bs : List Bool) : SeqAt.shaped (.list (bs.map PyData.bool)) = true := by
  simp only [SeqAt.shaped, PyData.canLay0, can_bools, PyData.depth, dep_bools]
  decide
theorem eqvAll_bools : ∀ as bs : List Bool, PyData.eqvAll (as.map PyData.bool) (bs.map PyData.bool) = decide (as = bs)
  | [], [] => by simp [PyData.eqvAll]
  | [], _ :: _ => by simp [PyData.eqvAll]
  | _ :: _, [] => by simp [PyData.eqvAll]
  | x :: r, y :: q => by
    simp only [List.map_cons, PyData.eqvAll, PyData.eqv, eqvAll_bools r q]
    cases x <;> cases y <;> simp
theorem eqv_listB (as bs : List Bool) : PyData.eqv (.list (as.map PyData.bool)) (.list (bs.map PyData.bool)) = decide (as = bs) := by
  simp only [PyData.eqv, eqvAll_bools]
/-- the parts of a set: a list, two ints, a list -/
def partsD (e r : List Int) (s p : Int) : PyData := .tuple [.list (e.map PyData.int), .int s, .int p, .list (r.map PyData.int)]
theorem dp_parts {H : Hp} {q a b : Addr} {e r : List Int} {s p : Int} (h : SqT K H q [.ref a, .int s, .int p, .ref b]) (ha : SqL K H a (e.map V.int)) (hb : SqL K H b (r.map V.int)) : Dp K H (.ref q) (partsD e r s p) :=
  .tup h (.cons (dp_listI ha) (.cons (.int _) (.cons (.int _) (.cons (dp_listI hb) .nil))))
theorem shaped_parts (e r : List Int) (s p : Int) : SeqAt.shaped (partsD e r s p) = true := by
  simp only [partsD, SeqAt.shaped, PyData.canLay0, PyData.canLayAll0, can_ints, PyData.depth, PyData.depthAll, dep_ints]
  decide
theorem eqv_parts (e r e' r' : List Int) (s p s' p' : Int) : PyData.eqv (partsD e r s p) (partsD e' r' s' p') = decide (e = e' ∧ s = s' ∧ p = p' ∧ r = r') := by
  simp only [partsD, PyData.eqv, PyData.eqvAll, eqvAll_ints, Bool.and_true]
  rw [Bool.eq_iff_iff]
  simp
end
/-! what a while's test asks grows with what is wished -/
def ME (t : TE) : Prop := ∀ (σ : L2.St) (H : Hp) (Q Q' : VK), (∀ v H1, Q v H1 → Q' v H1) → t σ H Q → t σ H Q'
def MT (c : TT) : Prop := ∀ (σ : L2.St) (H : Hp) (R R' : Bool → Hp → Prop), (∀ b H1, R b H1 → R' b H1) → c σ H R → c σ H R'
def MR (f : R2) : Prop := ∀ (x y : V) (H : Hp) (Q Q' : VK), (∀ v H1, Q v H1 → Q' v H1) → f x y H Q → f x y H Q'
def MA (t : TA) : Prop := ∀ (σ : L2.St) (H : Hp) (Q Q' : List V → Hp → Prop), (∀ v H1, Q v H1 → Q' v H1) → t σ H Q → t σ H Q'
theorem mVar {i : Nat} : ME (tVar i) := fun _ _ _ _ h ⟨v, e, q⟩ => ⟨v, e, h _ _ q⟩
theorem mC {v : V} : ME (tC v) := fun _ _ _ _ h q => h _ _ q
theorem mOp {r : R2} {a b : TE} (f : MR r) (ha : ME a) (hb : ME b) : ME (tOp r a b) := fun σ H _ _ h z => ha σ H _ _ (fun x H1 z1 => hb σ H1 _ _ (fun y H2 z2 => f x y H2 _ _ h z2) z1) z
theorem mI0 {g : Int → Int → V} : MR (rI0 g) := fun _ _ _ _ _ h ⟨i, j, e, e', q⟩ => ⟨i, j, e, e', h _ _ q⟩
theorem mI {C : Int → Int → Prop} {g : Int → Int → V} : MR (rI C g) := fun _ _ _ _ _ h ⟨i, j, e, e', c, q⟩ => ⟨i, j, e, e', c, h _ _ q⟩
theorem mIxL {K : PySem.W.Frag} : MR (rIxL K) := fun _ _ _ _ _ h ⟨p, xs, i, v, e, e', s, l, q⟩ => ⟨p, xs, i, v, e, e', s, l, h _ _ q⟩
theorem mEq : MR rEq := fun _ _ _ _ _ h ⟨e, q⟩ => ⟨e, h _ _ q⟩
theorem mNil : MA tNil := fun _ _ _ _ h q => h _ _ q
theorem mCons {a : TE} {t : TA} (ha : ME a) (ht : MA t) : MA (tCons a t) := fun σ H _ _ h z => ha σ H _ _ (fun x H1 z1 => ht σ H1 _ _ (fun vs H2 z2 => h _ _ z2) z1) z
theorem mLen {K : PySem.W.Frag} {t : TA} (ht : MA t) : ME (tCB (fun xs H Q => ∃ p ys, xs = [V.ref p] ∧ (SqL K H p ys ∨ SqT K H p ys) ∧ Q (V.int ys.length) H) t) := fun σ H _ _ h z => ht σ H _ _ (fun vs H1 ⟨p, ys, e, s, q⟩ => ⟨p, ys, e, s, h _ _ q⟩) z
theorem mTest {t : TE} (ht : ME t) : MT (tTest t) := fun σ H _ _ h z => ht σ H _ _ (fun x H1 ⟨k, e, q⟩ => ⟨k, e, h _ _ q⟩) z
theorem mAnd {t u : TT} (ht : MT t) (hu : MT u) : MT (tAnd t u) := fun σ H _ _ h z => ht σ H _ _ (fun b H1 z1 => by
  by_cases hb : b = true
  · rw [if_pos hb] at z1 ⊢
    exact hu σ H1 _ _ h z1
  · rw [if_neg hb] at z1 ⊢
    exact h _ _ z1) z
/-- a field's reading within a comprehension -/
theorem pe_fldK {X : Cx} {K : PySem.W.Frag} {e : PySem.Expr} {f : PySem.Str} {pos : PySem.Pos} {ta : TE} (ek : X.K = K) (h : PE X e ta) (hb : PySem.attributeBase e f X.env (PySem.eval e X.env) = PySem.eval e X.env) : PE X (e.Attribute f pos) (tFld K ta f) := ek ▸ pe_fld h hb
theorem flat_intsL (ns : List Int) : (ns.map V.int).all flatV = true := by
  rw [List.all_eq_true]
  intro v hv
  obtain ⟨n, _, rfl⟩ := List.mem_map.mp hv
  rfl
theorem inV_intsL (i : Int) (ns : List Int) : inV (.int i) (ns.map V.int) = decide (i ∈ ns) := by
  unfold inV
  rw [List.any_map]
  induction ns with
  | nil => rfl
  | cons n ns ih =>
    rw [List.any_cons, ih]
    show (eqV (.int n) (.int i) || _) = _
    have e : eqV (.int n) (.int i) = decide (n = i) := by first | (simp [eqV]; done) | (simp [eqV]; rfl)
    rw [e]
    by_cases h : n = i
    · subst h; simp
    · have h' : ¬ i = n := fun z => h z.symm
      simp [h, h', List.mem_cons]
theorem mapAppL {ns : List Int} {v : Int} : ns.map V.int ++ [V.int v] = (ns ++ [v]).map V.int := by simp
theorem op_inK {X : Cx} {K : PySem.W.Frag} (e : X.K = K) : OpR X (PySem.compareOp .In) (rIn K false) := e ▸ op_in_seq
end Rd
/-! ## errors as values: made, asked for their class, their fields read; repr of plain values; lists of texts compared -/
namespace ExV
open PySem PySem.Spec PyProof.Rows L2
/-- the class object of an own error with its own __init__, by one look -/
def oexI (K : PySem.W.Frag) (C : Addr) : Bool := match K.lookup C with
  | some ⟨.type "type", _, .cls c, sl⟩ => (match c.mro, sl.toList with
    | .ref E :: bm, [_, _, _, _, some (.builtin n), _] => (E == C && n == "ValueError.__new__") && ((!c.hasDel && c.hasDict) && PySem.HandSPX.refsVE bm)
    | _, _ => false)
  | _ => false
theorem oex_of {K : PySem.W.Frag} {C : Addr} (q : oexI K C = true) : ∃ nm q N bs bm sn sub ab col dd k0 k1 k2 k3 k5, K.lookup C = some (excClassObj nm q C N bs bm true sn sub ab col dd k0 k1 k2 k3 k5 "ValueError.__new__") ∧ PySem.HandSPX.refsVE bm = true := by
  unfold oexI at q
  split at q
  · rename_i dd c sl hC
    split at q
    · rename_i E bm k0 k1 k2 k3 n k5 e1 e2
      simp only [Bool.and_eq_true, beq_iff_eq, Bool.not_eq_true'] at q
      obtain ⟨⟨z1, z2⟩, ⟨z3, z4⟩, z5⟩ := q
      subst z1 z2
      obtain ⟨nm, bs, mro, ns, qn, hd, sn, sub, ab, col, del⟩ := c
      dsimp only at e1 z3 z4
      subst e1 z3 z4
      have e3 : sl = #[k0, k1, k2, k3, some (.builtin "ValueError.__new__"), k5] := by
        cases sl
        simp only at e2
        rw [e2]
      subst e3
      exact ⟨nm, qn, ns, bs, bm, sn, sub, ab, col, dd, k0, k1, k2, k3, k5, hC, z5⟩
    · cases q
  · cases q
/-- an error of the class at D stands at a -/
def IsErr (H : Hp) (a D : Addr) : Prop := H a = some (ExO (.ref D) a) ∨ ∃ d fs, H a = some (exo a D (some d)) ∧ H d = some (exd d fs)
theorem IsErr.same {H H' : Hp} {a D : Addr} (S : Same H H') (h : IsErr H a D) : IsErr H' a D := h.imp (fun h => S _ _ h) fun ⟨d, fs, h1, h2⟩ => ⟨d, fs, S _ _ h1, S _ _ h2⟩
section
variable {X : Cx} {pins : List (Addr × Obj)} {σ : L2.St} {H : Hp} {s : Shared}
theorem inst {a D : Addr} (I : Inv X pins σ H s) (h : IsErr H a D) : ∃ oe od, PySem.W.InstAt s.heap a oe D od := by
  rcases h with h | ⟨d, fs, h1, h2⟩
  · obtain ⟨⟨oe, vs, ho, ⟨hz1, hz2⟩, hd, _⟩, _⟩ := I.hok a _ h
    obtain ⟨oc, di, da, sl⟩ := oe
    dsimp only at hz1 hz2 hd
    subst hz1 hz2 hd
    exact ⟨_, none, ho, rfl, rfl, trivial⟩
  · obtain ⟨t1, ho⟩ := exo_at I.hok h1
    obtain ⟨mA, hn, _⟩ := exd_at I.hok h2
    obtain ⟨od, hod, _⟩ := lookIn_ns hn
    exact ⟨_, some od, ho, rfl, rfl, hod⟩
/-- isinstance(e, c), e an error held as a value -/
def rIsV (K : PySem.W.Frag) : List V → Hp → VK → Prop := fun xs H Q => ∃ (a D : Addr) (c : V) (u : Value) (b : Bool), xs = [.ref a, c] ∧ IsErr H a D ∧ ExcC K D ∧ ClsV c u ∧ PySem.W.kitOne K (.ref D) u = some b ∧ Q (.bl b) H
theorem call_isV {K : PySem.W.Frag} (eK : X.K = K) : CallR X (.builtin "isinstance") (rIsV K) := by
  subst eK
  rintro pins s σ H xs us Q I r ⟨a, D, c, u, b, rfl, he, C, kc, e, q⟩
  obtain ⟨u1, u2, rfl, r1, r2⟩ := vals2 r
  cases (show u1 = Value.ref a from r1)
  have e2 := kc.eq r2
  subst e2
  obtain ⟨oe, od, J⟩ := inst I he
  have cl : (PySem.W.clsIn X.K D).isSome = true := by
    obtain ⟨cd, hc, _⟩ := PySem.W.any_some C.hd
    rw [hc]; rfl
  exact PySem.W.kia_one (PySem.W.kitx_exc cl C.hg C.hk C.hs C.ha C.hn C.ht C.hm) I.kIn J e (fun z => nomatch z) fun tk => ⟨.bl b, H, I.tok tk, rfl, q⟩
/-- repr of a plain value -/
inductive Rpr : V → Str → Prop where
  | non : Rpr .non "None"
  | int (i : Int) (h : i.natAbs.log2 < 1920) : Rpr (.int i) (toString i)
  | str (x : Str) (h : (reprText x).length ≤ sizeLine) : Rpr (.str x) (reprText x)
def rRpr : List V → Hp → VK → Prop := fun xs H Q => ∃ v r, xs = [v] ∧ Rpr v r ∧ Q (.str r) H
theorem call_rpr : CallR X (.builtin "repr") rRpr := by
  rintro pins s σ H xs us Q I r ⟨v, t, rfl, h, q⟩
  obtain ⟨u, rfl, r1⟩ := vals1 r
  cases h with
  | non =>
    cases (show u = Value.none from r1)
    exact PySem.P.repr_of_none ⟨.str _, H, I.tok _, ⟨_, rfl⟩, q⟩
  | int i hz =>
    obtain ⟨t, rfl⟩ := r1
    exact PySem.P.repr_of_int hz ⟨.str _, H, I.tok _, ⟨_, rfl⟩, q⟩
  | str x hz =>
    obtain ⟨t, rfl⟩ := r1
    exact PySem.P.repr_of_str ⟨.str _, H, I.tok _, ⟨_, rfl⟩, q⟩ hz
end
section
variable {X : Cx} {C : Addr} {x n : Str} {e o : Expr} {ta te : TE} {p pos : Pos}
/-- X(e), an error without own __init__, as a value -/
def tEx1 (C : Addr) (ta : TE) : TE := fun σ H Q => ta σ H fun _ H1 => ∀ a, H1 a = none → Q (.ref a) (upd H1 a (ExO (.ref C) a))
theorem pe_ex1 {bmB : List Value} {B newId initId : String} (F : ExcBaseFacts B newId initId bmB) (q : PySem.W.excIn X.K C bmB newId = true) (gC : X.mg x = some (.ref C)) (kC : PySem.W.keepIn X.K (.ref C) = true) (hg : Gl X x) (he : PE X e ta)
    (hs : starEach [e] X.env = (false, eval e X.env) :: starEach [] X.env := by rfl) (hdb : (x == ("__debug__" : Str)) = false := by decide) : PE X (.Call (.Name x p) [e] [] pos) (tEx1 C ta) := pe_exc1 F q gC kC hg he hs hdb
/-- X(e, ..), an error with own __init__, as a value -/
def tMkV (C : Addr) (sp : Sp) (ta : TA) : TE := fun σ H Q => ta σ H fun vs H1 => vs.length ≤ 1000 ∧ ∀ a, H1 a = none → sp (.ref a :: vs) (upd H1 a (exo a C none)) (fun v H2 => v = .non ∧ Q (.ref a) H2) (fun _ _ _ => False)
theorem pe_mkV {CX : CXT} {fI : Addr} {k : Nat} {fd : FuncData} {ps : List Str} {sp : Sp} {es : List Expr} {t : TA} (T : OexC X.K C) (iC : PySem.W.findIn X.K (.ref C) "__init__" = some (some (.ref fI))) (tI : PySem.W.typeIn X.K (.ref fI) = some (.type "function"))
    (F1 : FnOk X.prog X.w X.K X.mg X.base CX k fI fd ps sp) (hr : Room (k + 1) X.A) (hb : Binds X.K fd ps []) (hx : Passes CX X (fun _ _ _ => False)) (hg : Gl X x) (hm : X.mg x = some (.ref C)) (ha : PA X (e :: es) t)
    (hdb : (x == ("__debug__" : Str)) = false := by decide) (he : starEach (e :: es) X.env = (false, eval e X.env) :: starEach es X.env := by rfl) (hpl : (backTo pos (starEach es X.env)).any (·.1) = false := by rfl) :
    PE X (.Call (.Name x p) (e :: es) [] pos) (tMkV C sp t) := by
  constructor
  intro pins s σ H Q I h
  obtain ⟨nm, q, N, bs, bm, sn, sub, ab, col, dd, k0, k1, k2, k3, k5, hC, hbm⟩ := T.cls
  refine wpAny_Call_Name_kw (ld_glob I hg hm ?_ hdb)
  refine PySem.W.callWith_K (h₀ := X.base) I.ok.mod.kin T.kC (thn (ha.run pos pins s σ H _ I h) fun us z ⟨vs, H1, J, rv, len, go⟩ => ⟨J.kIn, ?_⟩) he hpl
  show wpAny _ _ (call (.ref C) us) _ _ _
  obtain ⟨hp, g, dr, tk, os⟩ := z
  have up : hp.objs.size ≤ hp.objs.size + 1 := Nat.le_succ _
  have go := go (hp.objs.size + 1) (J.hok.fresh up)
  have got : ((hp.push (PySem.W.kdv_tup us)).push (PySem.HandSPX.excO C hp.objs.size)).get? (hp.objs.size + 1) = some (PySem.HandSPX.excO C hp.objs.size) := by heap_get
  have J2 := J.laid (t' := tk) (a := hp.objs.size + 1) (o := exo (hp.objs.size + 1) C none) (h' := (hp.push (PySem.W.kdv_tup us)).push (PySem.HandSPX.excO C hp.objs.size)) (fun b o e => Heap.get?_push_of_some _ (Heap.get?_push_of_some _ e)) up (exo_ok got)
  have rw2 : Vals (V.ref (hp.objs.size + 1) :: vs) (Value.ref (hp.objs.size + 1) :: us) := .cons rfl rv
  have ln : (Value.ref (hp.objs.size + 1) :: us).length = ps.length := by rw [← rw2.length]; exact F1.len _ _ _ _ go
  have sz : us.length ≤ sizeLine := by rw [← rv.length, sizeLine_eq]; omega
  have bd := hb _ (Value.ref (hp.objs.size + 1) :: us) J2.kIn (by rw [List.append_nil]; exact ln)
  rw [List.append_nil] at bd
  refine wpAny_call (PySem.HandSPX.call_own F.excBase_ValueError (fun Y => PySem.HandSPX.refsVE_contains Y bm hbm) (J.kIn _ _ hC) (PySem.W.looks_findIn J.kIn iC) (fun self => PySem.W.bind_fn J.kIn self tI) sz
    (codeAny_mono (F1.run _ X.stack _ _ ⟨_, []⟩ _ _ _ (fun _ _ _ => False) (hr.make C us []) (J2.env0.make C us []) bd rw2 go) fun r z' hq => ?_))
  match r, hq with
  | .error er, hq => exact hx pins σ _ _ er z' J2 hq
  | .ok (.ret u), hq =>
    obtain ⟨v, H2, J3, rv2, ev, q2⟩ := J2.after hq
    subst ev
    exact ⟨rv2, ⟨V.ref (hp.objs.size + 1), H2, J3, rfl, q2⟩⟩
/-- a field of an error held as a value -/
def tFldV (C : Addr) (f : Str) (te : TE) : TE := fun σ H Q => te σ H fun y H1 => ∃ (a d : Addr) (fs : List (Str × V)) (v : V), y = .ref a ∧ H1 a = some (exo a C (some d)) ∧ H1 d = some (exd d fs) ∧ fs.lookup f = some v ∧ Q v H1
theorem pe_fldV (T : XfC X.K C) (hno : PySem.W.findIn X.K (.ref C) n = some none) (he : PE X o te) (hb : attributeBase o n X.env (eval o X.env) = eval o X.env := by rfl) : PE X (.Attribute o n pos) (tFldV C n te) := by
  constructor
  intro pins s σ H Q I h
  refine attr_of hb (thn (he.run pins s σ H _ I h) fun u z hh => ?_)
  obtain ⟨y, H1, J, ry, a, d, fs, v, ey, h1, h2, l, q⟩ := hh
  subst ey
  cases (show u = Value.ref a from ry)
  obtain ⟨t1, ho⟩ := exo_at J.hok h1
  obtain ⟨mA, hn, hr⟩ := exd_at J.hok h2
  obtain ⟨od, hod, hl⟩ := lookIn_ns hn
  obtain ⟨u, hu, ru⟩ := RelO.some_of (v := v) (o := mA n) (by rw [← l]; exact hr n)
  exact HandSPX.exc_get (od := some od) J.kIn ⟨ho, rfl, rfl, hod⟩ T.ga T.gg T.exC (PySem.W.findObj_own T.hdC hno rfl (by rw [hl, hu])) (handed_of ru) ⟨v, H1, J.tok _, ru, q⟩
end
end ExV
namespace Rd
open PySem PySem.Spec PyProof.Rows L2
section
variable {σ : L2.St} {H : Hp} {Q : VK} {C : Addr} {sp : Sp} {ta te to : TE} {t : TA} {K : PySem.W.Frag} {f : Str}
theorem ex1 (h : ta σ H fun _ H1 => ∀ a, H1 a = none → Q (.ref a) (upd H1 a (ExO (.ref C) a))) : ExV.tEx1 C ta σ H Q := h
theorem mkV (h : t σ H fun vs H1 => vs.length ≤ 1000 ∧ ∀ a, H1 a = none → sp (.ref a :: vs) (upd H1 a (exo a C none)) (fun v H2 => v = .non ∧ Q (.ref a) H2) (fun _ _ _ => False)) : ExV.tMkV C sp t σ H Q := h
theorem fldV (h : te σ H fun y H1 => ∃ (a d : Addr) (fs : List (Str × V)) (v : V), y = .ref a ∧ H1 a = some (exo a C (some d)) ∧ H1 d = some (exd d fs) ∧ fs.lookup f = some v ∧ Q v H1) : ExV.tFldV C f te σ H Q := h
theorem ost {D : Ends} (h : te σ H fun y H1 => to σ H1 fun x H2 => ∃ a C : Addr, x = .ref a ∧ OexC K C ∧ PySem.W.findIn K (.ref C) f = some none ∧
  ((H2 a = some (exo a C none) ∧ ∀ dx, H2 dx = none → dx ≠ a → D.nx σ (upd (upd H2 dx (exd dx [(f, y)])) a (exo a C (some dx)))) ∨
    ∃ (dx : Addr) (fs : List (Str × V)), H2 a = some (exo a C (some dx)) ∧ H2 dx = some (exd dx fs) ∧ fs.length ≤ 900 ∧ D.nx σ (upd H2 dx (exd dx ((f, y) :: fs))))) : tOst K f to te D σ H := h
end
theorem dp_texts {K : PySem.W.Frag} (H : Hp) : ∀ xs : List Str, DpAll K H (xs.map V.str) (xs.map PyData.str)
  | [] => .nil
  | _ :: r => .cons (.str _) (dp_texts H r)
theorem dp_listS {K : PySem.W.Frag} {H : Hp} {a : Addr} {xs : List Str} (h : SqL K H a (xs.map V.str)) : Dp K H (.ref a) (.list (xs.map PyData.str)) := .lst h (dp_texts H xs)
theorem can_texts : ∀ xs : List Str, (∀ x ∈ xs, PyData.strOk x = true) → PyData.canLayAll0 (xs.map PyData.str) = true
  | [], _ => by simp [PyData.canLayAll0]
  | x :: r, h => by simp only [List.map_cons, PyData.canLayAll0, PyData.canLay0, can_texts r (fun y hy => h y (List.mem_cons_of_mem _ hy)), h x List.mem_cons_self, Bool.and_self]
theorem dep_texts : ∀ xs : List Str, PyData.depthAll (xs.map PyData.str) = 0
  | [] => by simp [PyData.depthAll]
  | _ :: r => by simp only [List.map_cons, PyData.depthAll, PyData.depth, dep_texts r, Nat.max_self]
theorem shaped_listS {xs : List Str} (h : ∀ x ∈ xs, PyData.strOk x = true) : SeqAt.shaped (.list (xs.map PyData.str)) = true := by
  simp only [SeqAt.shaped, PyData.canLay0, can_texts xs h, PyData.depth, dep_texts]
  decide
theorem eqvAll_texts : ∀ xs : List Str, PyData.eqvAll (xs.map PyData.str) (xs.map PyData.str) = true
  | [] => by simp [PyData.eqvAll]
  | _ :: r => by simp [List.map_cons, PyData.eqvAll, PyData.eqv, eqvAll_texts r]
theorem eqv_listS (xs : List Str) : PyData.eqv (.list (xs.map PyData.str)) (.list (xs.map PyData.str)) = true := by
  simp only [PyData.eqv, eqvAll_texts]
end Rd
namespace Rd
open PySem PySem.Spec PyProof.Rows L2
theorem same_frm {H : Hp} {a : Addr} {o : HO} (n : H a = none) : Same H (upd H a o) := fun b u e => by
  rw [L2.upd_ne (fun z => by subst z; rw [n] at e; cases e)]
  exact e
/-- an error made of a name, the heap known by facts -/
theorem ex1v {σ : L2.St} {H : Hp} {Q : VK} {C : Addr} {i : Nat} (h : tVar i σ H fun _ H1 => ∀ a H', Same H1 H' → H1 a = none → ExV.IsErr H' a C → Q (.ref a) H') : ExV.tEx1 C (tVar i) σ H Q := by
  obtain ⟨v, e, q⟩ := h
  exact ⟨v, e, fun a n => q a _ (same_frm n) n (.inl L2.upd_same)⟩
end Rd

/-! ## heaps: what a step leaves -/
def Frm (a : Nat) (H H' : L2.Hp) : Prop := ∀ b o, H b = some o → b ≠ a → H' b = some o
section
open PySem L2
variable {H H' H1 H2 : Hp} {a b p : Nat} {o u : HO}
theorem Frm.get (f : Frm a H H') (h : H b = some o) (n : b ≠ a) : H' b = some o := f b o h n
theorem Sget (f : L2.Same H H') (h : H b = some o) : H' b = some o := f b o h
theorem Frm.free (f : Frm a H H') (n : b ≠ a) (h : H' b = none) : H b = none := by
  cases q : H b with
  | none => rfl
  | some o => rw [f b o q n] at h; cases h
theorem Sfree (f : L2.Same H H') (h : H' b = none) : H b = none := L2.Same.free f h
theorem updFree (h : upd H a o b = none) : H b = none := by
  unfold upd at h
  split at h
  · cases h
  · exact h
theorem updGet' (h : H b = some o) (n : b ≠ a) : upd H a u b = some o := by rw [upd_ne n]; exact h
theorem ne_none (h : H b = none) (h' : H a = some o) : a ≠ b := ne_of_none h' h
theorem ne_none' (h : H a = none) (h' : H b = some o) : a ≠ b := (ne_of_none h' h).symm
theorem updFresh (n : H a = none) (h : H b = some o) : upd H a u b = some o := updGet' h (ne_of_none h n)
theorem updMade {x dx : Nat} {v : HO} (n : H x = none) (m : H dx = none) (h : H b = some o) : upd (upd H dx u) x v b = some o := updGet' (updGet' h (ne_of_none h m)) (ne_of_none h n)
theorem Frm.get' (f : Frm a H H') (n : b ≠ a) (h : H b = some o) : H' b = some o := f b o h n
theorem updGet (n : b ≠ a) (h : H b = some o) : upd H a u b = some o := by rw [upd_ne n]; exact h
end

local macro_rules | `(tactic| walk_at "hp") => `(tactic| first
  | with_reducible assumption
  | with_reducible exact L2.upd_same
  | ((with_reducible apply updFresh); (· with_reducible assumption); (· walk_at "hp"))
  | ((with_reducible apply updMade); (· with_reducible assumption); (· with_reducible assumption); (· walk_at "hp"))
  | ((with_reducible apply updGet); (· walk_at "ne"); (· walk_at "hp"))
  | ((with_reducible apply Sget); (· with_reducible assumption); (· walk_at "hp"))
  | ((with_reducible apply Frm.get'); (· with_reducible assumption); (· walk_at "ne"); (· walk_at "hp"))
  | fail "hp")
local macro_rules | `(tactic| walk_at "ne") => `(tactic| first
  | with_reducible assumption
  | exact Ne.symm (by with_reducible assumption)
  | ((with_reducible apply ne_none); (· with_reducible assumption); (· walk_at "hp"))
  | ((with_reducible apply ne_none'); (· with_reducible assumption); (· walk_at "hp"))
  | ((with_reducible apply L2.ne_of); (· walk_at "hp"); (· walk_at "hp"); (· (intro z; cases z)))
  | fail "ne")
local macro_rules | `(tactic| walk_at "vr") => `(tactic| with_unfolding_all rfl)
local macro_rules | `(tactic| walk_at "hpl") => `(tactic| first
  | with_reducible assumption
  | ((with_reducible apply L2.SqL.of); walk_at "hp"))
local macro_rules | `(tactic| walk_at "hpt") => `(tactic| first
  | with_reducible assumption
  | ((with_reducible apply L2.SqT.of); walk_at "hp"))
local macro_rules | `(tactic| walk_at "hpq") => `(tactic| first
  | with_reducible assumption
  | (apply Or.inl; walk_at "hpl")
  | (apply Or.inr; walk_at "hpt"))
local macro_rules | `(tactic| walk_at "sc") => `(tactic| first
  | with_reducible assumption
  | omega
  | decide
  | ((repeat' split) <;> omega))
local macro_rules | `(tactic| walk_at "scp") => `(tactic| (unfold L2.CPow; omega))
local macro_rules | `(tactic| walk_at "ll") => `(tactic| with_unfolding_all exact Nat.le_of_ble_eq_true rfl)
theorem wm {i j : Int} (hi : -(2 ^ 200) < i ∧ i < 2 ^ 200) (hj : -(2 ^ 200) < j ∧ j < 2 ^ 200) : L2.CMulW i j :=
  L2.wide_mul (a := 200) (b := 200) (by omega) (by omega) (by decide) (by decide) (by decide)
theorem wd {i j : Int} (h : 0 < j) (hj : j < 2 ^ 200) : L2.CDivW i j :=
  L2.wide_div (b := 200) h (by omega) (by decide) (by decide)
local macro_rules | `(tactic| walk_at "scm") => `(tactic| exact wm ⟨by walk_at "sc", by walk_at "sc"⟩ ⟨by walk_at "sc", by walk_at "sc"⟩)
local macro_rules | `(tactic| walk_at "scd") => `(tactic| exact wd (by walk_at "sc") (by walk_at "sc"))
local macro_rules | `(tactic| walk_at "clsv") => `(tactic| first | exact L2.ClsV.ty _ | exact L2.ClsV.own _)
local macro_rules | `(tactic| walk_at "kit") => `(tactic| first | with_reducible exact Rd.kit_int_int | with_reducible exact Rd.kit_int_bool | with_reducible exact Rd.kit_bool_bool | with_reducible exact Rd.kit_str_str | with_reducible exact Rd.kit_bool_int | with_reducible exact Rd.kit_str_int | with_reducible exact Rd.kit_none_int | with_reducible exact Rd.kit_tuple_int | with_reducible exact Rd.kit_list_int | with_reducible exact Rd.kit_dict_int | with_reducible exact Rd.kit_str_bool | with_reducible exact Rd.kit_int_str | with_reducible assumption)
local macro_rules | `(tactic| walk_at "nf") => `(tactic| with_reducible assumption)
local macro_rules | `(tactic| walk_at "tyx") => `(tactic| first | exact L2.TyX.base (L2.TyOf.int _) | exact L2.TyX.base (L2.TyOf.bl _) | exact L2.TyX.base L2.TyOf.non | exact L2.TyX.base (L2.TyOf.str _) | ((with_reducible apply Rd.ty_tup); walk_at "hp") | ((with_reducible apply Rd.ty_lst); walk_at "hp"))
local macro_rules | `(tactic| walk_at "frm") => `(tactic| first | (intro b o hb; walk_at "hp") | (intro b o hb hn; walk_at "hp"))
local macro_rules | `(tactic| walk_at "nn") => `(tactic| first
  | with_reducible assumption
  | exact updFree (by with_reducible assumption)
  | exact updFree (updFree (by with_reducible assumption))
  | exact updFree (updFree (updFree (by with_reducible assumption)))
  | exact updFree (updFree (updFree (updFree (by with_reducible assumption))))
  | exact updFree (updFree (updFree (updFree (updFree (by with_reducible assumption)))))
  | exact updFree (updFree (updFree (updFree (updFree (updFree (by with_reducible assumption))))))
  | exact updFree (updFree (updFree (updFree (updFree (updFree (updFree (by with_reducible assumption)))))))
  | exact updFree (updFree (updFree (updFree (updFree (updFree (updFree (updFree (by with_reducible assumption))))))))
  | exact updFree (updFree (updFree (updFree (updFree (updFree (updFree (updFree (updFree (by with_reducible assumption)))))))))
  | exact updFree (updFree (updFree (updFree (updFree (updFree (updFree (updFree (updFree (updFree (by with_reducible assumption))))))))))
  | exact updFree (updFree (updFree (updFree (updFree (updFree (updFree (updFree (updFree (updFree (updFree (by with_reducible assumption)))))))))))
  | exact updFree (updFree (updFree (updFree (updFree (updFree (updFree (updFree (updFree (updFree (updFree (updFree (by with_reducible assumption))))))))))))
  | exact updFree (updFree (updFree (updFree (updFree (updFree (updFree (updFree (updFree (updFree (updFree (updFree (updFree (by with_reducible assumption)))))))))))))
  | exact updFree (updFree (updFree (updFree (updFree (updFree (updFree (updFree (updFree (updFree (updFree (updFree (updFree (updFree (by with_reducible assumption))))))))))))))
  | exact updFree (updFree (updFree (updFree (updFree (updFree (updFree (updFree (updFree (updFree (updFree (updFree (updFree (updFree (updFree (by with_reducible assumption)))))))))))))))
  | exact updFree (updFree (updFree (updFree (updFree (updFree (updFree (updFree (updFree (updFree (updFree (updFree (updFree (updFree (updFree (updFree (by with_reducible assumption))))))))))))))))
  | exact updFree (updFree (updFree (updFree (updFree (updFree (updFree (updFree (updFree (updFree (updFree (updFree (updFree (updFree (updFree (updFree (updFree (by with_reducible assumption)))))))))))))))))
  | exact updFree (updFree (updFree (updFree (updFree (updFree (updFree (updFree (updFree (updFree (updFree (updFree (updFree (updFree (updFree (updFree (updFree (updFree (by with_reducible assumption))))))))))))))))))
  | ((with_reducible apply Sfree); (· with_reducible assumption); (· walk_at "nn")))
local macro_rules | `(tactic| walk_at "em") => `(tactic| first | rfl | (simp only [Int.emod_add_emod, Int.emod_sub_emod, Int.sub_emod_emod, Int.emod_emod]; first | done | rfl | (congr 1; omega)))
local macro_rules | `(tactic| walk_at "dp") => `(tactic| first | ((with_reducible apply Rd.dp_nil); walk_at "hpl") | ((with_reducible apply Rd.dp_listI); walk_at "hpl") | ((with_reducible apply Rd.dp_pair); walk_at "hpt") | ((with_reducible apply L2.Dp.lst); (· walk_at "hpl"); (· walk_at "dpa")) | ((with_reducible apply L2.Dp.tup); (· walk_at "hpt"); (· walk_at "dpa")))
local macro_rules | `(tactic| walk_at "dpt") => `(tactic| first | ((with_reducible apply Rd.dp_pair); (· walk_at "hpt")) | ((with_reducible apply L2.Dp.tup); (· walk_at "hpt"); (· walk_at "dpa")) | fail "dpt")
local macro_rules | `(tactic| walk_at "dpa") => `(tactic| first | with_reducible exact L2.DpAll.nil | ((with_reducible apply L2.DpAll.cons); (· walk_at "dp1"); (· walk_at "dpa")))
local macro_rules | `(tactic| walk_at "dp1") => `(tactic| first | with_reducible exact L2.Dp.int _ | with_reducible exact L2.Dp.bl _ | with_reducible exact L2.Dp.str _ | with_reducible exact L2.Dp.non | walk_at "dp")
local macro_rules | `(tactic| walk_at "shp") => `(tactic| first | with_reducible exact Rd.shaped_pair _ _ | with_reducible exact Rd.shaped_listI _ | with_reducible exact Rd.shaped_nil | (simp only [PySem.SeqAt.shaped, PySem.PyData.canLay0, PySem.PyData.canLayAll0, PySem.PyData.depth, PySem.PyData.depthAll]; rfl))
local macro_rules | `(tactic| walk_at "ty0") => `(tactic| exact Own.ty_int)
local macro_rules | `(tactic| walk_at "sfl") => `(tactic| first | with_unfolding_all exact Nat.le_of_ble_eq_true rfl | ((refine Rd.lput ?_); (repeat refine Rd.lputs ?_); with_unfolding_all exact Nat.le_of_ble_eq_true rfl))
local macro_rules | `(tactic| walk_at "ixn") => `(tactic| first | with_unfolding_all rfl | decide)
local macro_rules | `(tactic| walk_at "bT") => `(tactic| first | (simp only [PySem.PyData.eqv, PySem.PyData.eqvAll, beq_self_eq_true, Bool.and_self]; done) | (exact decide_eq_true rfl) | (simp only [L2.V.int.injEq, L2.V.bl.injEq, decide_eq_true_eq]; omega) | with_unfolding_all rfl | with_reducible assumption | exact decide_eq_true (by walk_at "sc"))
local macro_rules | `(tactic| walk_at "bF") => `(tactic| first | (simp only [← Int.sub_emod, decide_true, Bool.not_true]; done) | (simp only [L2.V.int.injEq, Int.emod_eq_emod_iff_emod_sub_eq_zero, eq_self, decide_true, Bool.true_and, Bool.not_true]; done) | (simp only [Rd.eqv_pairV, Rd.eqv_listI, Rd.eqv_nil, Bool.and_self, Bool.not_true, decide_true]; done) | with_unfolding_all rfl | with_reducible assumption | exact decide_eq_false (by walk_at "sc") | (simp only [L2.V.int.injEq, L2.V.bl.injEq, decide_eq_false_iff_not, Bool.not_eq_false', Bool.not_eq_eq_eq_not, Bool.not_false, decide_eq_true_eq]; omega) | (simp only [L2.V.int.injEq, Bool.and_eq_false_iff, decide_eq_false_iff_not]; first | omega | exact Or.inl (by omega)))

/-! ## the law's source of numbers: two ints in a list -/
section
open PySem L2
/-- what stands in the list -/
def SrcO (o : HO) : Prop := ∃ x y : Int, o = .lst [.int x, .int y] ∧ 0 ≤ x ∧ 0 ≤ y ∧ y < 2147483647
/-- a draw -/
abbrev spDraw : Sp := fun vs H Q _ => ∃ (a : Addr) (o : HO) (m : Int), vs = [.ref a, .int m] ∧ H a = some o ∧ SrcO o ∧ 0 < m ∧ m < 2 ^ 190 ∧
  ∀ (d : Int) (o' : HO), 0 ≤ d → d < m → SrcO o' → Q (.int d) (upd H a o')
/-- a fresh source -/
abbrev spSource (K : PySem.W.Frag) : Sp := fun vs H Q _ => ∃ (a : Addr) (ns : List Int) (t : Int), vs = [.ref a, .int t] ∧ SqL K H a (ns.map V.int) ∧ 0 ≤ t ∧ t < 1000000 ∧
  ∀ (p : Addr) (o : HO), H p = none → SrcO o → Q (.ref p) (upd H p o)
theorem sq_nonneg {y : Int} (h : 0 ≤ y) : 0 ≤ y * y := Int.mul_nonneg h h
theorem atI_map {ns : List Int} {t : Int} (h0 : 0 ≤ t) (h : t < (ns.length : Int)) : ∃ z : Int, atI (ns.map V.int) t = some (.int z) := by
  obtain ⟨j, rfl⟩ : ∃ j : Nat, t = (j : Int) := ⟨t.toNat, by omega⟩
  have hj : j < ns.length := by omega
  exact ⟨ns[j], atI_nat (by rw [List.getElem?_map, List.getElem?_eq_getElem hj]; rfl)⟩
/-- an item of a list of ints at a drawn place: what all its items keep -/
theorem pickI {ns : List Int} {P : Int → Prop} (hP : ∀ n ∈ ns, P n) {d : Int} (h0 : 0 ≤ d) (h : d < (ns.length : Int)) : ∃ n : Int, atI (ns.map V.int) d = some (.int n) ∧ P n := by
  obtain ⟨j, rfl⟩ : ∃ j : Nat, d = (j : Int) := ⟨d.toNat, by omega⟩
  have hj : j < ns.length := by omega
  exact ⟨ns[j], atI_nat (by rw [List.getElem?_map, List.getElem?_eq_getElem hj]; rfl), hP _ (List.getElem_mem hj)⟩
end

/-! ## the head: what the top leaves, looked at in one run -/
namespace Hd
open PySem PySem.Spec PyProof.Rows L2
/-- a def: its place (read off what is looked at), its two names, its text, its defaults -/
structure Df where
  ad : PySem.W.Frag → Addr
  nm : Str
  ql : Str
  st : Stmt
  dv : List V
  kw : List (Str × V)
def Df.see (K : PySem.W.Frag) (d : Df) : He.FnW := match K.lookup (d.ad K) with
  | some ⟨_, _, .func z, _⟩ => some (z.name, z.qualname, z.params, z.body, z.scope, z.globals, z.closure, z.builtins)
  | _ => none
def Df.due (d : Df) : He.FnW := some (d.nm, d.ql, defArgs d.st, .stmts (defBody d.st), defScope d.st, mainGlobals, [], builtinsNs)
def Df.good (K : PySem.W.Frag) (d : Df) : Bool := (match K.lookup (d.ad K) with
  | some ⟨_, _, .func z, _⟩ => (He.dflB K z.defaults d.dv && He.kwdB K z.kwdefaults d.kw) && PySem.W.codeIn K z.code d.ql
  | _ => false) && PySem.W.keepIn K (.ref (d.ad K))
theorem Df.fn {K : PySem.W.Frag} {d : Df} (s : d.see K = d.due) (g : d.good K = true) : ∃ fd, FunD K d.nm d.ql (defArgs d.st) (defBody d.st) (defScope d.st) d.dv d.kw (d.ad K) fd := by
  obtain ⟨g1, g2⟩ := He.ba g
  unfold Df.see at s
  cases e : K.lookup (d.ad K) with
  | none => simp only [e] at g1; cases g1
  | some o =>
    obtain ⟨c, dd, dt, sl⟩ := o
    cases dt with
    | func z =>
      simp only [e] at g1 s
      obtain ⟨g3, g4⟩ := He.ba g1
      obtain ⟨g5, g6⟩ := He.ba g3
      obtain ⟨a1, a2, a3, a4, a5, a6, a7, a8, a9, a10, a11, a12, a13, a14, a15⟩ := z
      simp only [Df.due, Option.some.injEq, Prod.mk.injEq] at s
      obtain ⟨h1, h2, h3, h4, h5, h6, h7, h8⟩ := s
      subst h1 h2 h3 h4 h5 h6 h7 h8
      exact ⟨_, ⟨c, dd, a8, a9, a10, a11, a12, a13, a14, sl, rfl, e, g4, He.dflB_ok g5, He.kwdB_ok g6⟩, g2⟩
    | _ => simp only [e] at g1; cases g1
theorem plain {K : PySem.W.Frag} {x q : Str} {st : Stmt} {f : Addr} {fd : FuncData} (F : FunD K x q (defArgs st) (defBody st) (defScope st) [] [] f fd) : Fun K x q st f fd := by
  obtain ⟨⟨oc, od, dV, kV, doc, pm, an, cdv, ct, sl, e, l, c, hd, _⟩, kp⟩ := F
  rcases hd with ⟨_, z⟩ | ⟨z, _⟩
  · subst z; exact ⟨⟨oc, od, kV, doc, pm, an, cdv, ct, sl, e, l, c⟩, kp⟩
  · exact absurd rfl z
/-! what objects name, layer by layer: no code objects, no classes' bases -/
def refs (o : Obj) : List Addr := match o.cls with
  | .type "code" => []
  | _ => match o.data with
    | .seq its _ => its.toList.flatMap He.refV
    | .dict es _ => es.toList.flatMap fun e => He.refV e.val
    | .func z => He.refV z.code ++ (He.refV z.defaults ++ He.refV z.kwdefaults)
    | .cls c => [c.ns]
    | .fields vs => vs.toList.flatMap He.refV
    | _ => []
def nxt (g : Addr → Option Obj) (l : List Addr) : List Addr := l.flatMap fun a => match g a with
  | some o => refs o
  | none => []
def layers (g : Addr → Option Obj) : Nat → List Addr → List Addr
  | 0, l => l
  | n + 1, l => l ++ layers g n (nxt g l)
def part (n : Nat) (g : Addr → Option Obj) : PySem.W.Frag := He.frG g (cStatics :: layers g n [mainGlobals])
/-- the part, its spine and addresses computed ahead of what follows -/
def pin {α : Type} : PySem.W.Frag → (PySem.W.Frag → α) → α
  | [], k => k []
  | (a, o) :: r, k => HandSHeadRun.frNat a fun a => pin r fun r => k ((a, o) :: r)
theorem pin_eq {α : Type} : ∀ (l : PySem.W.Frag) (k : PySem.W.Frag → α), pin l k = k l
  | [], _ => rfl
  | (a, o) :: r, k => by
    show HandSHeadRun.frNat a (fun a => pin r fun r => k ((a, o) :: r)) = _
    rw [HandSHeadRun.frNat_eq, pin_eq r]
abbrev Al : Type := Bool × List He.FnW × List (Option (List (Option (Str × Int))))
def tell (fn : List Df) (ts : List He.Tab) (ex : PySem.W.Frag → Bool) (K : PySem.W.Frag) : Al := (ex K && fn.all fun d => d.good K, fn.map fun d => d.see K, ts.map fun t => He.dicW K (t.1 K))
def told (fn : List Df) (ts : List He.Tab) (w : World) : Al := (true, fn.map Df.due, ts.map fun t => some (He.keysIn w.params t.2))
def hook (n : Nat) (fn : List Df) (ts : List He.Tab) (ex : PySem.W.Frag → Bool) : PySem.W.Hook where
  α := Al
  obs := fun s => tell fn ts ex (part n s.heap.get?)
  val := fun w => told fn ts w
  says := fun w h => ∃ K : PySem.W.Frag, K.In h ∧ tell fn ts ex K = told fn ts w
  of := fun _ _ e => ⟨_, He.frG_in, e⟩
  keeps := fun _ _ _ ⟨K, hK, c⟩ k => ⟨K, PySem.W.Frag.In.keeps hK k, c⟩
def ob (n : Nat) (fn : List Df) (ts : List He.Tab) (ex : PySem.W.Frag → Bool) (s : PySem.W.SharedT) : Al := pin (part n (HandSHeadRun.getT s)) (tell fn ts ex)
theorem ob_eq {n : Nat} {fn : List Df} {ts : List He.Tab} {ex : PySem.W.Frag → Bool} (s : PySem.W.SharedT) : ob n fn ts ex s = (hook n fn ts ex).obs s.abs := by
  have e : HandSHeadRun.getT s = s.abs.heap.get? := funext (HandSHeadRun.getT_eq s)
  unfold ob
  rw [pin_eq, e]
  rfl
section
variable {fn : List Df} {ts : List He.Tab} {ex : PySem.W.Frag → Bool} {w : World} {K : PySem.W.Frag}
theorem exOf (c : tell fn ts ex K = told fn ts w) : ex K = true := (He.ba (congrArg (fun z : Al => z.1) c)).1
theorem fnOf (c : tell fn ts ex K = told fn ts w) (i : Nat) {d : Df} (h : fn[i]? = some d) : ∃ fd, FunD K d.nm d.ql (defArgs d.st) (defBody d.st) (defScope d.st) d.dv d.kw (d.ad K) fd := by
  have c2 := (He.ba (show (ex K && fn.all fun d => d.good K) = true from congrArg (fun z : Al => z.1) c)).2
  have e : fn.map (fun d => d.see K) = fn.map Df.due := congrArg (fun z : Al => z.2.1) c
  have e2 := congrArg (fun l : List He.FnW => l[i]?) e
  simp only [List.getElem?_map, h, Option.map_some, Option.some.injEq] at e2
  exact Df.fn e2 (List.all_eq_true.mp c2 d (List.mem_of_getElem? h))
theorem tabOf (c : tell fn ts ex K = told fn ts w) (i : Nat) {t : He.Tab} (h : ts[i]? = some t) : ∃ es n, KDict K w (t.1 K) es n := by
  have e : ts.map (fun t => He.dicW K (t.1 K)) = ts.map fun t => some (He.keysIn w.params t.2) := congrArg (fun z : Al => z.2.2) c
  have e2 := congrArg (fun l : List (Option (List (Option (Str × Int)))) => l[i]?) e
  simp only [List.getElem?_map, h, Option.map_some, Option.some.injEq] at e2
  exact He.dicW_ok e2
end
/-! addresses and values off what is looked at -/
def adr (o : Option (Option Value)) : Addr := match o with
  | some (some (.ref a)) => a
  | _ => 0
def opt (o : Option (Option Value)) : Option Value := match o with
  | some v => v
  | none => none
def tok (o : Option (Option Value)) : Tok := match o with
  | some (some (.int _ t)) => t
  | some (some (.str _ t)) => t
  | _ => 0
def rec1 (o : Option (List Value)) : Addr := match o with
  | some (.ref a :: _) => a
  | _ => 0
def recR (o : Option (List Value)) : List Value := match o with
  | some (_ :: r) => r
  | _ => []
def stA (o : Option PySem.W.CFound) : Addr := match o with
  | some (.get _ (.ref a) _ _) => a
  | _ => 0
def stB (o : Option PySem.W.CFound) (C : Addr) : Bool := match o with
  | some (.get (.builtin b) (.ref _) .none (.ref c)) => decide (b = "staticmethod.__get__") && decide (c = C)
  | _ => false
theorem stB_ok {o : Option PySem.W.CFound} {C : Addr} (h : stB o C = true) : o = some (.get (.builtin "staticmethod.__get__") (.ref (stA o)) .none (.ref C)) := by
  unfold stB at h
  split at h
  · obtain ⟨h1, h2⟩ := He.ba h
    rw [of_decide_eq_true h1, of_decide_eq_true h2]
    rfl
  · cases h
def tupB (K : PySem.W.Frag) (a : Addr) (vs : List V) : Bool := match K.lookup a with
  | some ⟨.type c, _, .seq its _, _⟩ => decide (c = "tuple") && (decide (its.size ≤ sizeLine) && He.relAll vs its.toList)
  | _ => false
theorem tupB_ok {K : PySem.W.Frag} {a : Addr} {vs : List V} (h : tupB K a vs = true) : ∀ H : Hp, SqT K H a vs := by
  intro H
  unfold tupB at h
  split at h
  · rename_i c d its n sl e
    obtain ⟨h1, h2⟩ := He.ba h
    obtain ⟨h3, h4⟩ := He.ba h2
    exact .inr ⟨_, its, n, e, congrArg Value.type (of_decide_eq_true h1), rfl, of_decide_eq_true h3, He.relAll_ok h4⟩
  · cases h
def noR (o : Option Value) : Bool := match o with
  | none => true
  | some (.ref _) => true
  | _ => false
theorem noR_ok {o : Option Value} (h : noR o = true) : o = none ∨ ∃ g : Addr, o = some (.ref g) := by
  unfold noR at h
  split at h
  · exact .inl rfl
  · exact .inr ⟨_, rfl⟩
  · cases h
end Hd

namespace Pk39
open PySem L2
def top (i : Nat) : Stmt := PySem.Challenge.pw_ringindexes_k39_errors_stand_apart.main.body.getD i (.Pass ⟨0, 0, 0, 0⟩)
abbrev s_NoSchemeu__initu_ : Stmt := inClass (top 14) 0
abbrev s_NoRunu__initu_ : Stmt := inClass (top 15) 0
abbrev s_NotRightu__initu_ : Stmt := inClass (top 16) 0
abbrev s_NoHandsu__initu_ : Stmt := inClass (top 17) 0
abbrev s_NoStepsu__initu_ : Stmt := inClass (top 18) 0
abbrev s_NoChangeu__initu_ : Stmt := inClass (top 19) 0
abbrev s_l_cell : Stmt := top 21
abbrev s_l_parts : Stmt := top 22
abbrev s_l_of_text : Stmt := top 23
abbrev s_l_of_parts : Stmt := top 24
abbrev s_l_flags : Stmt := top 25
abbrev s_l_kept : Stmt := top 26
abbrev s_law : Stmt := top 27
structure Adr where
  f_NoSchemeu__initu_ : Addr
  d_NoSchemeu__initu_ : FuncData
  f_NoRunu__initu_ : Addr
  d_NoRunu__initu_ : FuncData
  f_NotRightu__initu_ : Addr
  d_NotRightu__initu_ : FuncData
  f_NoHandsu__initu_ : Addr
  d_NoHandsu__initu_ : FuncData
  f_NoStepsu__initu_ : Addr
  d_NoStepsu__initu_ : FuncData
  f_NoChangeu__initu_ : Addr
  d_NoChangeu__initu_ : FuncData
  f_l_cell : Addr
  d_l_cell : FuncData
  f_l_parts : Addr
  d_l_parts : FuncData
  f_l_of_text : Addr
  d_l_of_text : FuncData
  f_l_of_parts : Addr
  d_l_of_parts : FuncData
  f_l_flags : Addr
  d_l_flags : FuncData
  f_l_kept : Addr
  d_l_kept : FuncData
  f_law : Addr
  d_law : FuncData
  c_NoScheme : Addr
  c_NoRun : Addr
  c_NotRight : Addr
  c_NoHands : Addr
  c_NoSteps : Addr
  c_NoChange : Addr
  c_RingError : Addr
  c_NoForm : Addr
  c_NoCounter : Addr
  c_NoSize : Addr
  c_NoRing : Addr
  c_Outside : Addr
  c_NoSet : Addr
  c_TooLong : Addr
  c_NotDecided : Addr
  c_NoLag : Addr
  c_NoRow : Addr
  c_NoName : Addr
  c_Nested : Addr
abbrev R : PySem.W.OpenRow := PySem.W.OpenLaw.row PySem.Challenge.rw_ringindexes_k39_errors_stand_apart
abbrev Px0 (K : PySem.W.Frag) : Prop := (PySem.W.nsIn K mainGlobals "len" = some none) ∧ (PySem.W.nsIn K mainGlobals "int" = some none) ∧ (PySem.W.nsIn K mainGlobals "range" = some none) ∧ (PySem.W.nsIn K mainGlobals "max" = some none) ∧ (PySem.W.nsIn K mainGlobals "min" = some none) ∧ (PySem.W.nsIn K mainGlobals "isinstance" = some none) ∧ (PySem.W.nsIn K mainGlobals "repr" = some none) ∧ (PySem.W.nsIn K mainGlobals "str" = some none) ∧ (PySem.W.nsIn K mainGlobals "ValueError" = some none) ∧ (PySem.W.nsIn K mainGlobals "NoForm" = some (some (.ref (He.ga K "NoForm")))) ∧ (PySem.W.nsIn K mainGlobals "NoCounter" = some (some (.ref (He.ga K "NoCounter")))) ∧ (PySem.W.nsIn K mainGlobals "NoSize" = some (some (.ref (He.ga K "NoSize"))))
abbrev Px1 (K : PySem.W.Frag) : Prop := (PySem.W.nsIn K mainGlobals "NoRing" = some (some (.ref (He.ga K "NoRing")))) ∧ (PySem.W.nsIn K mainGlobals "Outside" = some (some (.ref (He.ga K "Outside")))) ∧ (PySem.W.nsIn K mainGlobals "NoSet" = some (some (.ref (He.ga K "NoSet")))) ∧ (PySem.W.nsIn K mainGlobals "TooLong" = some (some (.ref (He.ga K "TooLong")))) ∧ (PySem.W.nsIn K mainGlobals "NotDecided" = some (some (.ref (He.ga K "NotDecided")))) ∧ (PySem.W.nsIn K mainGlobals "NoLag" = some (some (.ref (He.ga K "NoLag")))) ∧ (PySem.W.nsIn K mainGlobals "NoRow" = some (some (.ref (He.ga K "NoRow")))) ∧ (PySem.W.nsIn K mainGlobals "NoName" = some (some (.ref (He.ga K "NoName")))) ∧ (PySem.W.nsIn K mainGlobals "Nested" = some (some (.ref (He.ga K "Nested")))) ∧ (PySem.W.nsIn K mainGlobals "NoScheme" = some (some (.ref (He.ga K "NoScheme")))) ∧ (PySem.W.nsIn K mainGlobals "NoRun" = some (some (.ref (He.ga K "NoRun")))) ∧ (PySem.W.nsIn K mainGlobals "NotRight" = some (some (.ref (He.ga K "NotRight"))))
abbrev Px2 (K : PySem.W.Frag) : Prop := (PySem.W.nsIn K mainGlobals "NoHands" = some (some (.ref (He.ga K "NoHands")))) ∧ (PySem.W.nsIn K mainGlobals "NoSteps" = some (some (.ref (He.ga K "NoSteps")))) ∧ (PySem.W.nsIn K mainGlobals "NoChange" = some (some (.ref (He.ga K "NoChange")))) ∧ (PySem.W.nsIn K mainGlobals "RingError" = some (some (.ref (He.ga K "RingError")))) ∧ (PySem.W.nsIn K mainGlobals "_law_cell" = some (some (.ref (He.ga K "_law_cell")))) ∧ (PySem.W.nsIn K mainGlobals "_law_parts" = some (some (.ref (He.ga K "_law_parts")))) ∧ (PySem.W.nsIn K mainGlobals "_law_of_text" = some (some (.ref (He.ga K "_law_of_text")))) ∧ (PySem.W.nsIn K mainGlobals "_law_of_parts" = some (some (.ref (He.ga K "_law_of_parts")))) ∧ (PySem.W.nsIn K mainGlobals "_law_flags" = some (some (.ref (He.ga K "_law_flags")))) ∧ (PySem.W.nsIn K mainGlobals "_law_kept" = some (some (.ref (He.ga K "_law_kept")))) ∧ (PySem.W.nsIn K mainGlobals "law" = some (some (.ref (He.ga K "law")))) ∧ (PySem.W.excIn K (He.ga K "NoForm") [.type "ValueError", .type "Exception", .type "BaseException", .type "object"] "ValueError.__new__" = true)
abbrev Px3 (K : PySem.W.Frag) : Prop := (PySem.W.keepIn K (.ref (He.ga K "NoForm")) = true) ∧ (PySem.W.subIn K (.ref (He.ga K "NoForm")) (.type "BaseException") = some true) ∧ (PySem.W.typeIn K (.ref (He.ga K "NoForm")) = some (.type "type")) ∧ (PySem.W.excIn K (He.ga K "NoCounter") [.type "ValueError", .type "Exception", .type "BaseException", .type "object"] "ValueError.__new__" = true) ∧ (PySem.W.keepIn K (.ref (He.ga K "NoCounter")) = true) ∧ (PySem.W.subIn K (.ref (He.ga K "NoCounter")) (.type "BaseException") = some true) ∧ (PySem.W.typeIn K (.ref (He.ga K "NoCounter")) = some (.type "type")) ∧ (PySem.W.excIn K (He.ga K "NoSize") [.type "ValueError", .type "Exception", .type "BaseException", .type "object"] "ValueError.__new__" = true) ∧ (PySem.W.keepIn K (.ref (He.ga K "NoSize")) = true) ∧ (PySem.W.subIn K (.ref (He.ga K "NoSize")) (.type "BaseException") = some true) ∧ (PySem.W.typeIn K (.ref (He.ga K "NoSize")) = some (.type "type")) ∧ (PySem.W.excIn K (He.ga K "NoRing") [.type "ValueError", .type "Exception", .type "BaseException", .type "object"] "ValueError.__new__" = true)
abbrev Px4 (K : PySem.W.Frag) : Prop := (PySem.W.keepIn K (.ref (He.ga K "NoRing")) = true) ∧ (PySem.W.subIn K (.ref (He.ga K "NoRing")) (.type "BaseException") = some true) ∧ (PySem.W.typeIn K (.ref (He.ga K "NoRing")) = some (.type "type")) ∧ (PySem.W.excIn K (He.ga K "Outside") [.type "ValueError", .type "Exception", .type "BaseException", .type "object"] "ValueError.__new__" = true) ∧ (PySem.W.keepIn K (.ref (He.ga K "Outside")) = true) ∧ (PySem.W.subIn K (.ref (He.ga K "Outside")) (.type "BaseException") = some true) ∧ (PySem.W.typeIn K (.ref (He.ga K "Outside")) = some (.type "type")) ∧ (PySem.W.excIn K (He.ga K "NoSet") [.type "ValueError", .type "Exception", .type "BaseException", .type "object"] "ValueError.__new__" = true) ∧ (PySem.W.keepIn K (.ref (He.ga K "NoSet")) = true) ∧ (PySem.W.subIn K (.ref (He.ga K "NoSet")) (.type "BaseException") = some true) ∧ (PySem.W.typeIn K (.ref (He.ga K "NoSet")) = some (.type "type")) ∧ (PySem.W.excIn K (He.ga K "TooLong") [.type "ValueError", .type "Exception", .type "BaseException", .type "object"] "ValueError.__new__" = true)
abbrev Px5 (K : PySem.W.Frag) : Prop := (PySem.W.keepIn K (.ref (He.ga K "TooLong")) = true) ∧ (PySem.W.subIn K (.ref (He.ga K "TooLong")) (.type "BaseException") = some true) ∧ (PySem.W.typeIn K (.ref (He.ga K "TooLong")) = some (.type "type")) ∧ (PySem.W.excIn K (He.ga K "NotDecided") [.type "ValueError", .type "Exception", .type "BaseException", .type "object"] "ValueError.__new__" = true) ∧ (PySem.W.keepIn K (.ref (He.ga K "NotDecided")) = true) ∧ (PySem.W.subIn K (.ref (He.ga K "NotDecided")) (.type "BaseException") = some true) ∧ (PySem.W.typeIn K (.ref (He.ga K "NotDecided")) = some (.type "type")) ∧ (PySem.W.excIn K (He.ga K "NoLag") [.type "ValueError", .type "Exception", .type "BaseException", .type "object"] "ValueError.__new__" = true) ∧ (PySem.W.keepIn K (.ref (He.ga K "NoLag")) = true) ∧ (PySem.W.subIn K (.ref (He.ga K "NoLag")) (.type "BaseException") = some true) ∧ (PySem.W.typeIn K (.ref (He.ga K "NoLag")) = some (.type "type")) ∧ (PySem.W.excIn K (He.ga K "NoRow") [.type "ValueError", .type "Exception", .type "BaseException", .type "object"] "ValueError.__new__" = true)
abbrev Px6 (K : PySem.W.Frag) : Prop := (PySem.W.keepIn K (.ref (He.ga K "NoRow")) = true) ∧ (PySem.W.subIn K (.ref (He.ga K "NoRow")) (.type "BaseException") = some true) ∧ (PySem.W.typeIn K (.ref (He.ga K "NoRow")) = some (.type "type")) ∧ (PySem.W.excIn K (He.ga K "NoName") [.type "ValueError", .type "Exception", .type "BaseException", .type "object"] "ValueError.__new__" = true) ∧ (PySem.W.keepIn K (.ref (He.ga K "NoName")) = true) ∧ (PySem.W.subIn K (.ref (He.ga K "NoName")) (.type "BaseException") = some true) ∧ (PySem.W.typeIn K (.ref (He.ga K "NoName")) = some (.type "type")) ∧ (PySem.W.excIn K (He.ga K "Nested") [.type "ValueError", .type "Exception", .type "BaseException", .type "object"] "ValueError.__new__" = true) ∧ (PySem.W.keepIn K (.ref (He.ga K "Nested")) = true) ∧ (PySem.W.subIn K (.ref (He.ga K "Nested")) (.type "BaseException") = some true) ∧ (PySem.W.typeIn K (.ref (He.ga K "Nested")) = some (.type "type")) ∧ (PySem.W.kitOne K (.ref (He.ga K "NoForm")) (.ref (He.ga K "NoForm")) = some true)
abbrev Px7 (K : PySem.W.Frag) : Prop := (PySem.W.kitOne K (.ref (He.ga K "NoForm")) (.ref (He.ga K "NoCounter")) = some false) ∧ (PySem.W.kitOne K (.ref (He.ga K "NoForm")) (.ref (He.ga K "NoSize")) = some false) ∧ (PySem.W.kitOne K (.ref (He.ga K "NoForm")) (.ref (He.ga K "NoRing")) = some false) ∧ (PySem.W.kitOne K (.ref (He.ga K "NoForm")) (.ref (He.ga K "Outside")) = some false) ∧ (PySem.W.kitOne K (.ref (He.ga K "NoForm")) (.ref (He.ga K "NoSet")) = some false) ∧ (PySem.W.kitOne K (.ref (He.ga K "NoForm")) (.ref (He.ga K "TooLong")) = some false) ∧ (PySem.W.kitOne K (.ref (He.ga K "NoForm")) (.ref (He.ga K "NotDecided")) = some false) ∧ (PySem.W.kitOne K (.ref (He.ga K "NoForm")) (.ref (He.ga K "NoLag")) = some false) ∧ (PySem.W.kitOne K (.ref (He.ga K "NoForm")) (.ref (He.ga K "NoRow")) = some false) ∧ (PySem.W.kitOne K (.ref (He.ga K "NoForm")) (.ref (He.ga K "NoName")) = some false) ∧ (PySem.W.kitOne K (.ref (He.ga K "NoForm")) (.ref (He.ga K "Nested")) = some false) ∧ (PySem.W.kitOne K (.ref (He.ga K "NoForm")) (.ref (He.ga K "NoScheme")) = some false)
abbrev Px8 (K : PySem.W.Frag) : Prop := (PySem.W.kitOne K (.ref (He.ga K "NoForm")) (.ref (He.ga K "NoRun")) = some false) ∧ (PySem.W.kitOne K (.ref (He.ga K "NoForm")) (.ref (He.ga K "NotRight")) = some false) ∧ (PySem.W.kitOne K (.ref (He.ga K "NoForm")) (.ref (He.ga K "NoHands")) = some false) ∧ (PySem.W.kitOne K (.ref (He.ga K "NoForm")) (.ref (He.ga K "NoSteps")) = some false) ∧ (PySem.W.kitOne K (.ref (He.ga K "NoForm")) (.ref (He.ga K "NoChange")) = some false) ∧ (PySem.W.kitOne K (.ref (He.ga K "NoForm")) (.ref (He.ga K "RingError")) = some true) ∧ (PySem.W.kitOne K (.ref (He.ga K "NoForm")) (.type "ValueError") = some true) ∧ (PySem.W.subIn K (.ref (He.ga K "RingError")) (.type "BaseException") = some true) ∧ (PySem.W.hasDictIn K (He.ga K "RingError") = true) ∧ (PySem.W.typeIn K (.ref (He.ga K "RingError")) = some (.type "type")) ∧ (PySem.W.subIn K (.ref (He.ga K "NoForm")) (.ref (He.ga K "RingError")) = some true) ∧ (PySem.W.findIn K (.ref (He.ga K "NoForm")) "__getattribute__" = some (some (.builtin "BaseException.__getattribute__")))
abbrev Px9 (K : PySem.W.Frag) : Prop := (PySem.W.findIn K (.ref (He.ga K "NoForm")) "__getattr__" = some none) ∧ (PySem.W.hasDictIn K (He.ga K "NoForm") = true) ∧ (PySem.W.findIn K (.ref (He.ga K "NoForm")) "__class__" = some (some (.builtin "object.__class__"))) ∧ (PySem.W.specialIn K (.builtin "object.__class__") "__get__" = some (some (.builtin "getset_descriptor.__get__"))) ∧ (PySem.W.takesIn K (.builtin "object.__class__") = some true) ∧ (PySem.W.mroIn K (He.ga K "NoForm") (.type "object") = some true) ∧ (PySem.W.kitOne K (.ref (He.ga K "NoCounter")) (.ref (He.ga K "NoForm")) = some false) ∧ (PySem.W.kitOne K (.ref (He.ga K "NoCounter")) (.ref (He.ga K "NoCounter")) = some true) ∧ (PySem.W.kitOne K (.ref (He.ga K "NoCounter")) (.ref (He.ga K "NoSize")) = some false) ∧ (PySem.W.kitOne K (.ref (He.ga K "NoCounter")) (.ref (He.ga K "NoRing")) = some false) ∧ (PySem.W.kitOne K (.ref (He.ga K "NoCounter")) (.ref (He.ga K "Outside")) = some false) ∧ (PySem.W.kitOne K (.ref (He.ga K "NoCounter")) (.ref (He.ga K "NoSet")) = some false)
abbrev Px10 (K : PySem.W.Frag) : Prop := (PySem.W.kitOne K (.ref (He.ga K "NoCounter")) (.ref (He.ga K "TooLong")) = some false) ∧ (PySem.W.kitOne K (.ref (He.ga K "NoCounter")) (.ref (He.ga K "NotDecided")) = some false) ∧ (PySem.W.kitOne K (.ref (He.ga K "NoCounter")) (.ref (He.ga K "NoLag")) = some false) ∧ (PySem.W.kitOne K (.ref (He.ga K "NoCounter")) (.ref (He.ga K "NoRow")) = some false) ∧ (PySem.W.kitOne K (.ref (He.ga K "NoCounter")) (.ref (He.ga K "NoName")) = some false) ∧ (PySem.W.kitOne K (.ref (He.ga K "NoCounter")) (.ref (He.ga K "Nested")) = some false) ∧ (PySem.W.kitOne K (.ref (He.ga K "NoCounter")) (.ref (He.ga K "NoScheme")) = some false) ∧ (PySem.W.kitOne K (.ref (He.ga K "NoCounter")) (.ref (He.ga K "NoRun")) = some false) ∧ (PySem.W.kitOne K (.ref (He.ga K "NoCounter")) (.ref (He.ga K "NotRight")) = some false) ∧ (PySem.W.kitOne K (.ref (He.ga K "NoCounter")) (.ref (He.ga K "NoHands")) = some false) ∧ (PySem.W.kitOne K (.ref (He.ga K "NoCounter")) (.ref (He.ga K "NoSteps")) = some false) ∧ (PySem.W.kitOne K (.ref (He.ga K "NoCounter")) (.ref (He.ga K "NoChange")) = some false)
abbrev Px11 (K : PySem.W.Frag) : Prop := (PySem.W.kitOne K (.ref (He.ga K "NoCounter")) (.ref (He.ga K "RingError")) = some true) ∧ (PySem.W.kitOne K (.ref (He.ga K "NoCounter")) (.type "ValueError") = some true) ∧ (PySem.W.subIn K (.ref (He.ga K "NoCounter")) (.ref (He.ga K "RingError")) = some true) ∧ (PySem.W.findIn K (.ref (He.ga K "NoCounter")) "__getattribute__" = some (some (.builtin "BaseException.__getattribute__"))) ∧ (PySem.W.findIn K (.ref (He.ga K "NoCounter")) "__getattr__" = some none) ∧ (PySem.W.hasDictIn K (He.ga K "NoCounter") = true) ∧ (PySem.W.findIn K (.ref (He.ga K "NoCounter")) "__class__" = some (some (.builtin "object.__class__"))) ∧ (PySem.W.mroIn K (He.ga K "NoCounter") (.type "object") = some true) ∧ (PySem.W.kitOne K (.ref (He.ga K "NoSize")) (.ref (He.ga K "NoForm")) = some false) ∧ (PySem.W.kitOne K (.ref (He.ga K "NoSize")) (.ref (He.ga K "NoCounter")) = some false) ∧ (PySem.W.kitOne K (.ref (He.ga K "NoSize")) (.ref (He.ga K "NoSize")) = some true) ∧ (PySem.W.kitOne K (.ref (He.ga K "NoSize")) (.ref (He.ga K "NoRing")) = some false)
abbrev Px12 (K : PySem.W.Frag) : Prop := (PySem.W.kitOne K (.ref (He.ga K "NoSize")) (.ref (He.ga K "Outside")) = some false) ∧ (PySem.W.kitOne K (.ref (He.ga K "NoSize")) (.ref (He.ga K "NoSet")) = some false) ∧ (PySem.W.kitOne K (.ref (He.ga K "NoSize")) (.ref (He.ga K "TooLong")) = some false) ∧ (PySem.W.kitOne K (.ref (He.ga K "NoSize")) (.ref (He.ga K "NotDecided")) = some false) ∧ (PySem.W.kitOne K (.ref (He.ga K "NoSize")) (.ref (He.ga K "NoLag")) = some false) ∧ (PySem.W.kitOne K (.ref (He.ga K "NoSize")) (.ref (He.ga K "NoRow")) = some false) ∧ (PySem.W.kitOne K (.ref (He.ga K "NoSize")) (.ref (He.ga K "NoName")) = some false) ∧ (PySem.W.kitOne K (.ref (He.ga K "NoSize")) (.ref (He.ga K "Nested")) = some false) ∧ (PySem.W.kitOne K (.ref (He.ga K "NoSize")) (.ref (He.ga K "NoScheme")) = some false) ∧ (PySem.W.kitOne K (.ref (He.ga K "NoSize")) (.ref (He.ga K "NoRun")) = some false) ∧ (PySem.W.kitOne K (.ref (He.ga K "NoSize")) (.ref (He.ga K "NotRight")) = some false) ∧ (PySem.W.kitOne K (.ref (He.ga K "NoSize")) (.ref (He.ga K "NoHands")) = some false)
abbrev Px13 (K : PySem.W.Frag) : Prop := (PySem.W.kitOne K (.ref (He.ga K "NoSize")) (.ref (He.ga K "NoSteps")) = some false) ∧ (PySem.W.kitOne K (.ref (He.ga K "NoSize")) (.ref (He.ga K "NoChange")) = some false) ∧ (PySem.W.kitOne K (.ref (He.ga K "NoSize")) (.ref (He.ga K "RingError")) = some true) ∧ (PySem.W.kitOne K (.ref (He.ga K "NoSize")) (.type "ValueError") = some true) ∧ (PySem.W.subIn K (.ref (He.ga K "NoSize")) (.ref (He.ga K "RingError")) = some true) ∧ (PySem.W.findIn K (.ref (He.ga K "NoSize")) "__getattribute__" = some (some (.builtin "BaseException.__getattribute__"))) ∧ (PySem.W.findIn K (.ref (He.ga K "NoSize")) "__getattr__" = some none) ∧ (PySem.W.hasDictIn K (He.ga K "NoSize") = true) ∧ (PySem.W.findIn K (.ref (He.ga K "NoSize")) "__class__" = some (some (.builtin "object.__class__"))) ∧ (PySem.W.mroIn K (He.ga K "NoSize") (.type "object") = some true) ∧ (PySem.W.kitOne K (.ref (He.ga K "NoRing")) (.ref (He.ga K "NoForm")) = some false) ∧ (PySem.W.kitOne K (.ref (He.ga K "NoRing")) (.ref (He.ga K "NoCounter")) = some false)
abbrev Px14 (K : PySem.W.Frag) : Prop := (PySem.W.kitOne K (.ref (He.ga K "NoRing")) (.ref (He.ga K "NoSize")) = some false) ∧ (PySem.W.kitOne K (.ref (He.ga K "NoRing")) (.ref (He.ga K "NoRing")) = some true) ∧ (PySem.W.kitOne K (.ref (He.ga K "NoRing")) (.ref (He.ga K "Outside")) = some false) ∧ (PySem.W.kitOne K (.ref (He.ga K "NoRing")) (.ref (He.ga K "NoSet")) = some false) ∧ (PySem.W.kitOne K (.ref (He.ga K "NoRing")) (.ref (He.ga K "TooLong")) = some false) ∧ (PySem.W.kitOne K (.ref (He.ga K "NoRing")) (.ref (He.ga K "NotDecided")) = some false) ∧ (PySem.W.kitOne K (.ref (He.ga K "NoRing")) (.ref (He.ga K "NoLag")) = some false) ∧ (PySem.W.kitOne K (.ref (He.ga K "NoRing")) (.ref (He.ga K "NoRow")) = some false) ∧ (PySem.W.kitOne K (.ref (He.ga K "NoRing")) (.ref (He.ga K "NoName")) = some false) ∧ (PySem.W.kitOne K (.ref (He.ga K "NoRing")) (.ref (He.ga K "Nested")) = some false) ∧ (PySem.W.kitOne K (.ref (He.ga K "NoRing")) (.ref (He.ga K "NoScheme")) = some false) ∧ (PySem.W.kitOne K (.ref (He.ga K "NoRing")) (.ref (He.ga K "NoRun")) = some false)
abbrev Px15 (K : PySem.W.Frag) : Prop := (PySem.W.kitOne K (.ref (He.ga K "NoRing")) (.ref (He.ga K "NotRight")) = some false) ∧ (PySem.W.kitOne K (.ref (He.ga K "NoRing")) (.ref (He.ga K "NoHands")) = some false) ∧ (PySem.W.kitOne K (.ref (He.ga K "NoRing")) (.ref (He.ga K "NoSteps")) = some false) ∧ (PySem.W.kitOne K (.ref (He.ga K "NoRing")) (.ref (He.ga K "NoChange")) = some false) ∧ (PySem.W.kitOne K (.ref (He.ga K "NoRing")) (.ref (He.ga K "RingError")) = some true) ∧ (PySem.W.kitOne K (.ref (He.ga K "NoRing")) (.type "ValueError") = some true) ∧ (PySem.W.subIn K (.ref (He.ga K "NoRing")) (.ref (He.ga K "RingError")) = some true) ∧ (PySem.W.findIn K (.ref (He.ga K "NoRing")) "__getattribute__" = some (some (.builtin "BaseException.__getattribute__"))) ∧ (PySem.W.findIn K (.ref (He.ga K "NoRing")) "__getattr__" = some none) ∧ (PySem.W.hasDictIn K (He.ga K "NoRing") = true) ∧ (PySem.W.findIn K (.ref (He.ga K "NoRing")) "__class__" = some (some (.builtin "object.__class__"))) ∧ (PySem.W.mroIn K (He.ga K "NoRing") (.type "object") = some true)
abbrev Px16 (K : PySem.W.Frag) : Prop := (PySem.W.kitOne K (.ref (He.ga K "Outside")) (.ref (He.ga K "NoForm")) = some false) ∧ (PySem.W.kitOne K (.ref (He.ga K "Outside")) (.ref (He.ga K "NoCounter")) = some false) ∧ (PySem.W.kitOne K (.ref (He.ga K "Outside")) (.ref (He.ga K "NoSize")) = some false) ∧ (PySem.W.kitOne K (.ref (He.ga K "Outside")) (.ref (He.ga K "NoRing")) = some false) ∧ (PySem.W.kitOne K (.ref (He.ga K "Outside")) (.ref (He.ga K "Outside")) = some true) ∧ (PySem.W.kitOne K (.ref (He.ga K "Outside")) (.ref (He.ga K "NoSet")) = some false) ∧ (PySem.W.kitOne K (.ref (He.ga K "Outside")) (.ref (He.ga K "TooLong")) = some false) ∧ (PySem.W.kitOne K (.ref (He.ga K "Outside")) (.ref (He.ga K "NotDecided")) = some false) ∧ (PySem.W.kitOne K (.ref (He.ga K "Outside")) (.ref (He.ga K "NoLag")) = some false) ∧ (PySem.W.kitOne K (.ref (He.ga K "Outside")) (.ref (He.ga K "NoRow")) = some false) ∧ (PySem.W.kitOne K (.ref (He.ga K "Outside")) (.ref (He.ga K "NoName")) = some false) ∧ (PySem.W.kitOne K (.ref (He.ga K "Outside")) (.ref (He.ga K "Nested")) = some false)
abbrev Px17 (K : PySem.W.Frag) : Prop := (PySem.W.kitOne K (.ref (He.ga K "Outside")) (.ref (He.ga K "NoScheme")) = some false) ∧ (PySem.W.kitOne K (.ref (He.ga K "Outside")) (.ref (He.ga K "NoRun")) = some false) ∧ (PySem.W.kitOne K (.ref (He.ga K "Outside")) (.ref (He.ga K "NotRight")) = some false) ∧ (PySem.W.kitOne K (.ref (He.ga K "Outside")) (.ref (He.ga K "NoHands")) = some false) ∧ (PySem.W.kitOne K (.ref (He.ga K "Outside")) (.ref (He.ga K "NoSteps")) = some false) ∧ (PySem.W.kitOne K (.ref (He.ga K "Outside")) (.ref (He.ga K "NoChange")) = some false) ∧ (PySem.W.kitOne K (.ref (He.ga K "Outside")) (.ref (He.ga K "RingError")) = some true) ∧ (PySem.W.kitOne K (.ref (He.ga K "Outside")) (.type "ValueError") = some true) ∧ (PySem.W.subIn K (.ref (He.ga K "Outside")) (.ref (He.ga K "RingError")) = some true) ∧ (PySem.W.findIn K (.ref (He.ga K "Outside")) "__getattribute__" = some (some (.builtin "BaseException.__getattribute__"))) ∧ (PySem.W.findIn K (.ref (He.ga K "Outside")) "__getattr__" = some none) ∧ (PySem.W.hasDictIn K (He.ga K "Outside") = true)
abbrev Px18 (K : PySem.W.Frag) : Prop := (PySem.W.findIn K (.ref (He.ga K "Outside")) "__class__" = some (some (.builtin "object.__class__"))) ∧ (PySem.W.mroIn K (He.ga K "Outside") (.type "object") = some true) ∧ (PySem.W.kitOne K (.ref (He.ga K "NoSet")) (.ref (He.ga K "NoForm")) = some false) ∧ (PySem.W.kitOne K (.ref (He.ga K "NoSet")) (.ref (He.ga K "NoCounter")) = some false) ∧ (PySem.W.kitOne K (.ref (He.ga K "NoSet")) (.ref (He.ga K "NoSize")) = some false) ∧ (PySem.W.kitOne K (.ref (He.ga K "NoSet")) (.ref (He.ga K "NoRing")) = some false) ∧ (PySem.W.kitOne K (.ref (He.ga K "NoSet")) (.ref (He.ga K "Outside")) = some false) ∧ (PySem.W.kitOne K (.ref (He.ga K "NoSet")) (.ref (He.ga K "NoSet")) = some true) ∧ (PySem.W.kitOne K (.ref (He.ga K "NoSet")) (.ref (He.ga K "TooLong")) = some false) ∧ (PySem.W.kitOne K (.ref (He.ga K "NoSet")) (.ref (He.ga K "NotDecided")) = some false) ∧ (PySem.W.kitOne K (.ref (He.ga K "NoSet")) (.ref (He.ga K "NoLag")) = some false) ∧ (PySem.W.kitOne K (.ref (He.ga K "NoSet")) (.ref (He.ga K "NoRow")) = some false)
abbrev Px19 (K : PySem.W.Frag) : Prop := (PySem.W.kitOne K (.ref (He.ga K "NoSet")) (.ref (He.ga K "NoName")) = some false) ∧ (PySem.W.kitOne K (.ref (He.ga K "NoSet")) (.ref (He.ga K "Nested")) = some false) ∧ (PySem.W.kitOne K (.ref (He.ga K "NoSet")) (.ref (He.ga K "NoScheme")) = some false) ∧ (PySem.W.kitOne K (.ref (He.ga K "NoSet")) (.ref (He.ga K "NoRun")) = some false) ∧ (PySem.W.kitOne K (.ref (He.ga K "NoSet")) (.ref (He.ga K "NotRight")) = some false) ∧ (PySem.W.kitOne K (.ref (He.ga K "NoSet")) (.ref (He.ga K "NoHands")) = some false) ∧ (PySem.W.kitOne K (.ref (He.ga K "NoSet")) (.ref (He.ga K "NoSteps")) = some false) ∧ (PySem.W.kitOne K (.ref (He.ga K "NoSet")) (.ref (He.ga K "NoChange")) = some false) ∧ (PySem.W.kitOne K (.ref (He.ga K "NoSet")) (.ref (He.ga K "RingError")) = some true) ∧ (PySem.W.kitOne K (.ref (He.ga K "NoSet")) (.type "ValueError") = some true) ∧ (PySem.W.subIn K (.ref (He.ga K "NoSet")) (.ref (He.ga K "RingError")) = some true) ∧ (PySem.W.findIn K (.ref (He.ga K "NoSet")) "__getattribute__" = some (some (.builtin "BaseException.__getattribute__")))
abbrev Px20 (K : PySem.W.Frag) : Prop := (PySem.W.findIn K (.ref (He.ga K "NoSet")) "__getattr__" = some none) ∧ (PySem.W.hasDictIn K (He.ga K "NoSet") = true) ∧ (PySem.W.findIn K (.ref (He.ga K "NoSet")) "__class__" = some (some (.builtin "object.__class__"))) ∧ (PySem.W.mroIn K (He.ga K "NoSet") (.type "object") = some true) ∧ (PySem.W.kitOne K (.ref (He.ga K "TooLong")) (.ref (He.ga K "NoForm")) = some false) ∧ (PySem.W.kitOne K (.ref (He.ga K "TooLong")) (.ref (He.ga K "NoCounter")) = some false) ∧ (PySem.W.kitOne K (.ref (He.ga K "TooLong")) (.ref (He.ga K "NoSize")) = some false) ∧ (PySem.W.kitOne K (.ref (He.ga K "TooLong")) (.ref (He.ga K "NoRing")) = some false) ∧ (PySem.W.kitOne K (.ref (He.ga K "TooLong")) (.ref (He.ga K "Outside")) = some false) ∧ (PySem.W.kitOne K (.ref (He.ga K "TooLong")) (.ref (He.ga K "NoSet")) = some false) ∧ (PySem.W.kitOne K (.ref (He.ga K "TooLong")) (.ref (He.ga K "TooLong")) = some true) ∧ (PySem.W.kitOne K (.ref (He.ga K "TooLong")) (.ref (He.ga K "NotDecided")) = some false)
abbrev Px21 (K : PySem.W.Frag) : Prop := (PySem.W.kitOne K (.ref (He.ga K "TooLong")) (.ref (He.ga K "NoLag")) = some false) ∧ (PySem.W.kitOne K (.ref (He.ga K "TooLong")) (.ref (He.ga K "NoRow")) = some false) ∧ (PySem.W.kitOne K (.ref (He.ga K "TooLong")) (.ref (He.ga K "NoName")) = some false) ∧ (PySem.W.kitOne K (.ref (He.ga K "TooLong")) (.ref (He.ga K "Nested")) = some false) ∧ (PySem.W.kitOne K (.ref (He.ga K "TooLong")) (.ref (He.ga K "NoScheme")) = some false) ∧ (PySem.W.kitOne K (.ref (He.ga K "TooLong")) (.ref (He.ga K "NoRun")) = some false) ∧ (PySem.W.kitOne K (.ref (He.ga K "TooLong")) (.ref (He.ga K "NotRight")) = some false) ∧ (PySem.W.kitOne K (.ref (He.ga K "TooLong")) (.ref (He.ga K "NoHands")) = some false) ∧ (PySem.W.kitOne K (.ref (He.ga K "TooLong")) (.ref (He.ga K "NoSteps")) = some false) ∧ (PySem.W.kitOne K (.ref (He.ga K "TooLong")) (.ref (He.ga K "NoChange")) = some false) ∧ (PySem.W.kitOne K (.ref (He.ga K "TooLong")) (.ref (He.ga K "RingError")) = some true) ∧ (PySem.W.kitOne K (.ref (He.ga K "TooLong")) (.type "ValueError") = some true)
abbrev Px22 (K : PySem.W.Frag) : Prop := (PySem.W.subIn K (.ref (He.ga K "TooLong")) (.ref (He.ga K "RingError")) = some true) ∧ (PySem.W.findIn K (.ref (He.ga K "TooLong")) "__getattribute__" = some (some (.builtin "BaseException.__getattribute__"))) ∧ (PySem.W.findIn K (.ref (He.ga K "TooLong")) "__getattr__" = some none) ∧ (PySem.W.hasDictIn K (He.ga K "TooLong") = true) ∧ (PySem.W.findIn K (.ref (He.ga K "TooLong")) "__class__" = some (some (.builtin "object.__class__"))) ∧ (PySem.W.mroIn K (He.ga K "TooLong") (.type "object") = some true) ∧ (PySem.W.kitOne K (.ref (He.ga K "NotDecided")) (.ref (He.ga K "NoForm")) = some false) ∧ (PySem.W.kitOne K (.ref (He.ga K "NotDecided")) (.ref (He.ga K "NoCounter")) = some false) ∧ (PySem.W.kitOne K (.ref (He.ga K "NotDecided")) (.ref (He.ga K "NoSize")) = some false) ∧ (PySem.W.kitOne K (.ref (He.ga K "NotDecided")) (.ref (He.ga K "NoRing")) = some false) ∧ (PySem.W.kitOne K (.ref (He.ga K "NotDecided")) (.ref (He.ga K "Outside")) = some false) ∧ (PySem.W.kitOne K (.ref (He.ga K "NotDecided")) (.ref (He.ga K "NoSet")) = some false)
abbrev Px23 (K : PySem.W.Frag) : Prop := (PySem.W.kitOne K (.ref (He.ga K "NotDecided")) (.ref (He.ga K "TooLong")) = some false) ∧ (PySem.W.kitOne K (.ref (He.ga K "NotDecided")) (.ref (He.ga K "NotDecided")) = some true) ∧ (PySem.W.kitOne K (.ref (He.ga K "NotDecided")) (.ref (He.ga K "NoLag")) = some false) ∧ (PySem.W.kitOne K (.ref (He.ga K "NotDecided")) (.ref (He.ga K "NoRow")) = some false) ∧ (PySem.W.kitOne K (.ref (He.ga K "NotDecided")) (.ref (He.ga K "NoName")) = some false) ∧ (PySem.W.kitOne K (.ref (He.ga K "NotDecided")) (.ref (He.ga K "Nested")) = some false) ∧ (PySem.W.kitOne K (.ref (He.ga K "NotDecided")) (.ref (He.ga K "NoScheme")) = some false) ∧ (PySem.W.kitOne K (.ref (He.ga K "NotDecided")) (.ref (He.ga K "NoRun")) = some false) ∧ (PySem.W.kitOne K (.ref (He.ga K "NotDecided")) (.ref (He.ga K "NotRight")) = some false) ∧ (PySem.W.kitOne K (.ref (He.ga K "NotDecided")) (.ref (He.ga K "NoHands")) = some false) ∧ (PySem.W.kitOne K (.ref (He.ga K "NotDecided")) (.ref (He.ga K "NoSteps")) = some false) ∧ (PySem.W.kitOne K (.ref (He.ga K "NotDecided")) (.ref (He.ga K "NoChange")) = some false)
abbrev Px24 (K : PySem.W.Frag) : Prop := (PySem.W.kitOne K (.ref (He.ga K "NotDecided")) (.ref (He.ga K "RingError")) = some true) ∧ (PySem.W.kitOne K (.ref (He.ga K "NotDecided")) (.type "ValueError") = some true) ∧ (PySem.W.subIn K (.ref (He.ga K "NotDecided")) (.ref (He.ga K "RingError")) = some true) ∧ (PySem.W.findIn K (.ref (He.ga K "NotDecided")) "__getattribute__" = some (some (.builtin "BaseException.__getattribute__"))) ∧ (PySem.W.findIn K (.ref (He.ga K "NotDecided")) "__getattr__" = some none) ∧ (PySem.W.hasDictIn K (He.ga K "NotDecided") = true) ∧ (PySem.W.findIn K (.ref (He.ga K "NotDecided")) "__class__" = some (some (.builtin "object.__class__"))) ∧ (PySem.W.mroIn K (He.ga K "NotDecided") (.type "object") = some true) ∧ (PySem.W.kitOne K (.ref (He.ga K "NoLag")) (.ref (He.ga K "NoForm")) = some false) ∧ (PySem.W.kitOne K (.ref (He.ga K "NoLag")) (.ref (He.ga K "NoCounter")) = some false) ∧ (PySem.W.kitOne K (.ref (He.ga K "NoLag")) (.ref (He.ga K "NoSize")) = some false) ∧ (PySem.W.kitOne K (.ref (He.ga K "NoLag")) (.ref (He.ga K "NoRing")) = some false)
abbrev Px25 (K : PySem.W.Frag) : Prop := (PySem.W.kitOne K (.ref (He.ga K "NoLag")) (.ref (He.ga K "Outside")) = some false) ∧ (PySem.W.kitOne K (.ref (He.ga K "NoLag")) (.ref (He.ga K "NoSet")) = some false) ∧ (PySem.W.kitOne K (.ref (He.ga K "NoLag")) (.ref (He.ga K "TooLong")) = some false) ∧ (PySem.W.kitOne K (.ref (He.ga K "NoLag")) (.ref (He.ga K "NotDecided")) = some false) ∧ (PySem.W.kitOne K (.ref (He.ga K "NoLag")) (.ref (He.ga K "NoLag")) = some true) ∧ (PySem.W.kitOne K (.ref (He.ga K "NoLag")) (.ref (He.ga K "NoRow")) = some false) ∧ (PySem.W.kitOne K (.ref (He.ga K "NoLag")) (.ref (He.ga K "NoName")) = some false) ∧ (PySem.W.kitOne K (.ref (He.ga K "NoLag")) (.ref (He.ga K "Nested")) = some false) ∧ (PySem.W.kitOne K (.ref (He.ga K "NoLag")) (.ref (He.ga K "NoScheme")) = some false) ∧ (PySem.W.kitOne K (.ref (He.ga K "NoLag")) (.ref (He.ga K "NoRun")) = some false) ∧ (PySem.W.kitOne K (.ref (He.ga K "NoLag")) (.ref (He.ga K "NotRight")) = some false) ∧ (PySem.W.kitOne K (.ref (He.ga K "NoLag")) (.ref (He.ga K "NoHands")) = some false)
abbrev Px26 (K : PySem.W.Frag) : Prop := (PySem.W.kitOne K (.ref (He.ga K "NoLag")) (.ref (He.ga K "NoSteps")) = some false) ∧ (PySem.W.kitOne K (.ref (He.ga K "NoLag")) (.ref (He.ga K "NoChange")) = some false) ∧ (PySem.W.kitOne K (.ref (He.ga K "NoLag")) (.ref (He.ga K "RingError")) = some true) ∧ (PySem.W.kitOne K (.ref (He.ga K "NoLag")) (.type "ValueError") = some true) ∧ (PySem.W.subIn K (.ref (He.ga K "NoLag")) (.ref (He.ga K "RingError")) = some true) ∧ (PySem.W.findIn K (.ref (He.ga K "NoLag")) "__getattribute__" = some (some (.builtin "BaseException.__getattribute__"))) ∧ (PySem.W.findIn K (.ref (He.ga K "NoLag")) "__getattr__" = some none) ∧ (PySem.W.hasDictIn K (He.ga K "NoLag") = true) ∧ (PySem.W.findIn K (.ref (He.ga K "NoLag")) "__class__" = some (some (.builtin "object.__class__"))) ∧ (PySem.W.mroIn K (He.ga K "NoLag") (.type "object") = some true) ∧ (PySem.W.kitOne K (.ref (He.ga K "NoRow")) (.ref (He.ga K "NoForm")) = some false) ∧ (PySem.W.kitOne K (.ref (He.ga K "NoRow")) (.ref (He.ga K "NoCounter")) = some false)
abbrev Px27 (K : PySem.W.Frag) : Prop := (PySem.W.kitOne K (.ref (He.ga K "NoRow")) (.ref (He.ga K "NoSize")) = some false) ∧ (PySem.W.kitOne K (.ref (He.ga K "NoRow")) (.ref (He.ga K "NoRing")) = some false) ∧ (PySem.W.kitOne K (.ref (He.ga K "NoRow")) (.ref (He.ga K "Outside")) = some false) ∧ (PySem.W.kitOne K (.ref (He.ga K "NoRow")) (.ref (He.ga K "NoSet")) = some false) ∧ (PySem.W.kitOne K (.ref (He.ga K "NoRow")) (.ref (He.ga K "TooLong")) = some false) ∧ (PySem.W.kitOne K (.ref (He.ga K "NoRow")) (.ref (He.ga K "NotDecided")) = some false) ∧ (PySem.W.kitOne K (.ref (He.ga K "NoRow")) (.ref (He.ga K "NoLag")) = some false) ∧ (PySem.W.kitOne K (.ref (He.ga K "NoRow")) (.ref (He.ga K "NoRow")) = some true) ∧ (PySem.W.kitOne K (.ref (He.ga K "NoRow")) (.ref (He.ga K "NoName")) = some false) ∧ (PySem.W.kitOne K (.ref (He.ga K "NoRow")) (.ref (He.ga K "Nested")) = some false) ∧ (PySem.W.kitOne K (.ref (He.ga K "NoRow")) (.ref (He.ga K "NoScheme")) = some false) ∧ (PySem.W.kitOne K (.ref (He.ga K "NoRow")) (.ref (He.ga K "NoRun")) = some false)
abbrev Px28 (K : PySem.W.Frag) : Prop := (PySem.W.kitOne K (.ref (He.ga K "NoRow")) (.ref (He.ga K "NotRight")) = some false) ∧ (PySem.W.kitOne K (.ref (He.ga K "NoRow")) (.ref (He.ga K "NoHands")) = some false) ∧ (PySem.W.kitOne K (.ref (He.ga K "NoRow")) (.ref (He.ga K "NoSteps")) = some false) ∧ (PySem.W.kitOne K (.ref (He.ga K "NoRow")) (.ref (He.ga K "NoChange")) = some false) ∧ (PySem.W.kitOne K (.ref (He.ga K "NoRow")) (.ref (He.ga K "RingError")) = some true) ∧ (PySem.W.kitOne K (.ref (He.ga K "NoRow")) (.type "ValueError") = some true) ∧ (PySem.W.subIn K (.ref (He.ga K "NoRow")) (.ref (He.ga K "RingError")) = some true) ∧ (PySem.W.findIn K (.ref (He.ga K "NoRow")) "__getattribute__" = some (some (.builtin "BaseException.__getattribute__"))) ∧ (PySem.W.findIn K (.ref (He.ga K "NoRow")) "__getattr__" = some none) ∧ (PySem.W.hasDictIn K (He.ga K "NoRow") = true) ∧ (PySem.W.findIn K (.ref (He.ga K "NoRow")) "__class__" = some (some (.builtin "object.__class__"))) ∧ (PySem.W.mroIn K (He.ga K "NoRow") (.type "object") = some true)
abbrev Px29 (K : PySem.W.Frag) : Prop := (PySem.W.kitOne K (.ref (He.ga K "NoName")) (.ref (He.ga K "NoForm")) = some false) ∧ (PySem.W.kitOne K (.ref (He.ga K "NoName")) (.ref (He.ga K "NoCounter")) = some false) ∧ (PySem.W.kitOne K (.ref (He.ga K "NoName")) (.ref (He.ga K "NoSize")) = some false) ∧ (PySem.W.kitOne K (.ref (He.ga K "NoName")) (.ref (He.ga K "NoRing")) = some false) ∧ (PySem.W.kitOne K (.ref (He.ga K "NoName")) (.ref (He.ga K "Outside")) = some false) ∧ (PySem.W.kitOne K (.ref (He.ga K "NoName")) (.ref (He.ga K "NoSet")) = some false) ∧ (PySem.W.kitOne K (.ref (He.ga K "NoName")) (.ref (He.ga K "TooLong")) = some false) ∧ (PySem.W.kitOne K (.ref (He.ga K "NoName")) (.ref (He.ga K "NotDecided")) = some false) ∧ (PySem.W.kitOne K (.ref (He.ga K "NoName")) (.ref (He.ga K "NoLag")) = some false) ∧ (PySem.W.kitOne K (.ref (He.ga K "NoName")) (.ref (He.ga K "NoRow")) = some false) ∧ (PySem.W.kitOne K (.ref (He.ga K "NoName")) (.ref (He.ga K "NoName")) = some true) ∧ (PySem.W.kitOne K (.ref (He.ga K "NoName")) (.ref (He.ga K "Nested")) = some false)
abbrev Px30 (K : PySem.W.Frag) : Prop := (PySem.W.kitOne K (.ref (He.ga K "NoName")) (.ref (He.ga K "NoScheme")) = some false) ∧ (PySem.W.kitOne K (.ref (He.ga K "NoName")) (.ref (He.ga K "NoRun")) = some false) ∧ (PySem.W.kitOne K (.ref (He.ga K "NoName")) (.ref (He.ga K "NotRight")) = some false) ∧ (PySem.W.kitOne K (.ref (He.ga K "NoName")) (.ref (He.ga K "NoHands")) = some false) ∧ (PySem.W.kitOne K (.ref (He.ga K "NoName")) (.ref (He.ga K "NoSteps")) = some false) ∧ (PySem.W.kitOne K (.ref (He.ga K "NoName")) (.ref (He.ga K "NoChange")) = some false) ∧ (PySem.W.kitOne K (.ref (He.ga K "NoName")) (.ref (He.ga K "RingError")) = some true) ∧ (PySem.W.kitOne K (.ref (He.ga K "NoName")) (.type "ValueError") = some true) ∧ (PySem.W.subIn K (.ref (He.ga K "NoName")) (.ref (He.ga K "RingError")) = some true) ∧ (PySem.W.findIn K (.ref (He.ga K "NoName")) "__getattribute__" = some (some (.builtin "BaseException.__getattribute__"))) ∧ (PySem.W.findIn K (.ref (He.ga K "NoName")) "__getattr__" = some none) ∧ (PySem.W.hasDictIn K (He.ga K "NoName") = true)
abbrev Px31 (K : PySem.W.Frag) : Prop := (PySem.W.findIn K (.ref (He.ga K "NoName")) "__class__" = some (some (.builtin "object.__class__"))) ∧ (PySem.W.mroIn K (He.ga K "NoName") (.type "object") = some true) ∧ (PySem.W.kitOne K (.ref (He.ga K "Nested")) (.ref (He.ga K "NoForm")) = some false) ∧ (PySem.W.kitOne K (.ref (He.ga K "Nested")) (.ref (He.ga K "NoCounter")) = some false) ∧ (PySem.W.kitOne K (.ref (He.ga K "Nested")) (.ref (He.ga K "NoSize")) = some false) ∧ (PySem.W.kitOne K (.ref (He.ga K "Nested")) (.ref (He.ga K "NoRing")) = some false) ∧ (PySem.W.kitOne K (.ref (He.ga K "Nested")) (.ref (He.ga K "Outside")) = some false) ∧ (PySem.W.kitOne K (.ref (He.ga K "Nested")) (.ref (He.ga K "NoSet")) = some false) ∧ (PySem.W.kitOne K (.ref (He.ga K "Nested")) (.ref (He.ga K "TooLong")) = some false) ∧ (PySem.W.kitOne K (.ref (He.ga K "Nested")) (.ref (He.ga K "NotDecided")) = some false) ∧ (PySem.W.kitOne K (.ref (He.ga K "Nested")) (.ref (He.ga K "NoLag")) = some false) ∧ (PySem.W.kitOne K (.ref (He.ga K "Nested")) (.ref (He.ga K "NoRow")) = some false)
abbrev Px32 (K : PySem.W.Frag) : Prop := (PySem.W.kitOne K (.ref (He.ga K "Nested")) (.ref (He.ga K "NoName")) = some false) ∧ (PySem.W.kitOne K (.ref (He.ga K "Nested")) (.ref (He.ga K "Nested")) = some true) ∧ (PySem.W.kitOne K (.ref (He.ga K "Nested")) (.ref (He.ga K "NoScheme")) = some false) ∧ (PySem.W.kitOne K (.ref (He.ga K "Nested")) (.ref (He.ga K "NoRun")) = some false) ∧ (PySem.W.kitOne K (.ref (He.ga K "Nested")) (.ref (He.ga K "NotRight")) = some false) ∧ (PySem.W.kitOne K (.ref (He.ga K "Nested")) (.ref (He.ga K "NoHands")) = some false) ∧ (PySem.W.kitOne K (.ref (He.ga K "Nested")) (.ref (He.ga K "NoSteps")) = some false) ∧ (PySem.W.kitOne K (.ref (He.ga K "Nested")) (.ref (He.ga K "NoChange")) = some false) ∧ (PySem.W.kitOne K (.ref (He.ga K "Nested")) (.ref (He.ga K "RingError")) = some true) ∧ (PySem.W.kitOne K (.ref (He.ga K "Nested")) (.type "ValueError") = some true) ∧ (PySem.W.subIn K (.ref (He.ga K "Nested")) (.ref (He.ga K "RingError")) = some true) ∧ (PySem.W.findIn K (.ref (He.ga K "Nested")) "__getattribute__" = some (some (.builtin "BaseException.__getattribute__")))
abbrev Px33 (K : PySem.W.Frag) : Prop := (PySem.W.findIn K (.ref (He.ga K "Nested")) "__getattr__" = some none) ∧ (PySem.W.hasDictIn K (He.ga K "Nested") = true) ∧ (PySem.W.findIn K (.ref (He.ga K "Nested")) "__class__" = some (some (.builtin "object.__class__"))) ∧ (PySem.W.mroIn K (He.ga K "Nested") (.type "object") = some true) ∧ (PySem.W.kitOne K (.ref (He.ga K "NoScheme")) (.ref (He.ga K "NoForm")) = some false) ∧ (PySem.W.kitOne K (.ref (He.ga K "NoScheme")) (.ref (He.ga K "NoCounter")) = some false) ∧ (PySem.W.kitOne K (.ref (He.ga K "NoScheme")) (.ref (He.ga K "NoSize")) = some false) ∧ (PySem.W.kitOne K (.ref (He.ga K "NoScheme")) (.ref (He.ga K "NoRing")) = some false) ∧ (PySem.W.kitOne K (.ref (He.ga K "NoScheme")) (.ref (He.ga K "Outside")) = some false) ∧ (PySem.W.kitOne K (.ref (He.ga K "NoScheme")) (.ref (He.ga K "NoSet")) = some false) ∧ (PySem.W.kitOne K (.ref (He.ga K "NoScheme")) (.ref (He.ga K "TooLong")) = some false) ∧ (PySem.W.kitOne K (.ref (He.ga K "NoScheme")) (.ref (He.ga K "NotDecided")) = some false)
abbrev Px34 (K : PySem.W.Frag) : Prop := (PySem.W.kitOne K (.ref (He.ga K "NoScheme")) (.ref (He.ga K "NoLag")) = some false) ∧ (PySem.W.kitOne K (.ref (He.ga K "NoScheme")) (.ref (He.ga K "NoRow")) = some false) ∧ (PySem.W.kitOne K (.ref (He.ga K "NoScheme")) (.ref (He.ga K "NoName")) = some false) ∧ (PySem.W.kitOne K (.ref (He.ga K "NoScheme")) (.ref (He.ga K "Nested")) = some false) ∧ (PySem.W.kitOne K (.ref (He.ga K "NoScheme")) (.ref (He.ga K "NoScheme")) = some true) ∧ (PySem.W.kitOne K (.ref (He.ga K "NoScheme")) (.ref (He.ga K "NoRun")) = some false) ∧ (PySem.W.kitOne K (.ref (He.ga K "NoScheme")) (.ref (He.ga K "NotRight")) = some false) ∧ (PySem.W.kitOne K (.ref (He.ga K "NoScheme")) (.ref (He.ga K "NoHands")) = some false) ∧ (PySem.W.kitOne K (.ref (He.ga K "NoScheme")) (.ref (He.ga K "NoSteps")) = some false) ∧ (PySem.W.kitOne K (.ref (He.ga K "NoScheme")) (.ref (He.ga K "NoChange")) = some false) ∧ (PySem.W.kitOne K (.ref (He.ga K "NoScheme")) (.ref (He.ga K "RingError")) = some true) ∧ (PySem.W.kitOne K (.ref (He.ga K "NoScheme")) (.type "ValueError") = some true)
abbrev Px35 (K : PySem.W.Frag) : Prop := (PySem.W.subIn K (.ref (He.ga K "NoScheme")) (.ref (He.ga K "RingError")) = some true) ∧ (PySem.W.findIn K (.ref (He.ga K "NoScheme")) "__getattribute__" = some (some (.builtin "BaseException.__getattribute__"))) ∧ (PySem.W.findIn K (.ref (He.ga K "NoScheme")) "__getattr__" = some none) ∧ (PySem.W.subIn K (.ref (He.ga K "NoScheme")) (.type "BaseException") = some true) ∧ (PySem.W.hasDictIn K (He.ga K "NoScheme") = true) ∧ (PySem.W.findIn K (.ref (He.ga K "NoScheme")) "__class__" = some (some (.builtin "object.__class__"))) ∧ (PySem.W.mroIn K (He.ga K "NoScheme") (.type "object") = some true) ∧ (PySem.W.kitOne K (.ref (He.ga K "NoRun")) (.ref (He.ga K "NoForm")) = some false) ∧ (PySem.W.kitOne K (.ref (He.ga K "NoRun")) (.ref (He.ga K "NoCounter")) = some false) ∧ (PySem.W.kitOne K (.ref (He.ga K "NoRun")) (.ref (He.ga K "NoSize")) = some false) ∧ (PySem.W.kitOne K (.ref (He.ga K "NoRun")) (.ref (He.ga K "NoRing")) = some false) ∧ (PySem.W.kitOne K (.ref (He.ga K "NoRun")) (.ref (He.ga K "Outside")) = some false)
abbrev Px36 (K : PySem.W.Frag) : Prop := (PySem.W.kitOne K (.ref (He.ga K "NoRun")) (.ref (He.ga K "NoSet")) = some false) ∧ (PySem.W.kitOne K (.ref (He.ga K "NoRun")) (.ref (He.ga K "TooLong")) = some false) ∧ (PySem.W.kitOne K (.ref (He.ga K "NoRun")) (.ref (He.ga K "NotDecided")) = some false) ∧ (PySem.W.kitOne K (.ref (He.ga K "NoRun")) (.ref (He.ga K "NoLag")) = some false) ∧ (PySem.W.kitOne K (.ref (He.ga K "NoRun")) (.ref (He.ga K "NoRow")) = some false) ∧ (PySem.W.kitOne K (.ref (He.ga K "NoRun")) (.ref (He.ga K "NoName")) = some false) ∧ (PySem.W.kitOne K (.ref (He.ga K "NoRun")) (.ref (He.ga K "Nested")) = some false) ∧ (PySem.W.kitOne K (.ref (He.ga K "NoRun")) (.ref (He.ga K "NoScheme")) = some false) ∧ (PySem.W.kitOne K (.ref (He.ga K "NoRun")) (.ref (He.ga K "NoRun")) = some true) ∧ (PySem.W.kitOne K (.ref (He.ga K "NoRun")) (.ref (He.ga K "NotRight")) = some false) ∧ (PySem.W.kitOne K (.ref (He.ga K "NoRun")) (.ref (He.ga K "NoHands")) = some false) ∧ (PySem.W.kitOne K (.ref (He.ga K "NoRun")) (.ref (He.ga K "NoSteps")) = some false)
abbrev Px37 (K : PySem.W.Frag) : Prop := (PySem.W.kitOne K (.ref (He.ga K "NoRun")) (.ref (He.ga K "NoChange")) = some false) ∧ (PySem.W.kitOne K (.ref (He.ga K "NoRun")) (.ref (He.ga K "RingError")) = some true) ∧ (PySem.W.kitOne K (.ref (He.ga K "NoRun")) (.type "ValueError") = some true) ∧ (PySem.W.subIn K (.ref (He.ga K "NoRun")) (.ref (He.ga K "RingError")) = some true) ∧ (PySem.W.findIn K (.ref (He.ga K "NoRun")) "__getattribute__" = some (some (.builtin "BaseException.__getattribute__"))) ∧ (PySem.W.findIn K (.ref (He.ga K "NoRun")) "__getattr__" = some none) ∧ (PySem.W.subIn K (.ref (He.ga K "NoRun")) (.type "BaseException") = some true) ∧ (PySem.W.hasDictIn K (He.ga K "NoRun") = true) ∧ (PySem.W.findIn K (.ref (He.ga K "NoRun")) "__class__" = some (some (.builtin "object.__class__"))) ∧ (PySem.W.mroIn K (He.ga K "NoRun") (.type "object") = some true) ∧ (PySem.W.kitOne K (.ref (He.ga K "NotRight")) (.ref (He.ga K "NoForm")) = some false) ∧ (PySem.W.kitOne K (.ref (He.ga K "NotRight")) (.ref (He.ga K "NoCounter")) = some false)
abbrev Px38 (K : PySem.W.Frag) : Prop := (PySem.W.kitOne K (.ref (He.ga K "NotRight")) (.ref (He.ga K "NoSize")) = some false) ∧ (PySem.W.kitOne K (.ref (He.ga K "NotRight")) (.ref (He.ga K "NoRing")) = some false) ∧ (PySem.W.kitOne K (.ref (He.ga K "NotRight")) (.ref (He.ga K "Outside")) = some false) ∧ (PySem.W.kitOne K (.ref (He.ga K "NotRight")) (.ref (He.ga K "NoSet")) = some false) ∧ (PySem.W.kitOne K (.ref (He.ga K "NotRight")) (.ref (He.ga K "TooLong")) = some false) ∧ (PySem.W.kitOne K (.ref (He.ga K "NotRight")) (.ref (He.ga K "NotDecided")) = some false) ∧ (PySem.W.kitOne K (.ref (He.ga K "NotRight")) (.ref (He.ga K "NoLag")) = some false) ∧ (PySem.W.kitOne K (.ref (He.ga K "NotRight")) (.ref (He.ga K "NoRow")) = some false) ∧ (PySem.W.kitOne K (.ref (He.ga K "NotRight")) (.ref (He.ga K "NoName")) = some false) ∧ (PySem.W.kitOne K (.ref (He.ga K "NotRight")) (.ref (He.ga K "Nested")) = some false) ∧ (PySem.W.kitOne K (.ref (He.ga K "NotRight")) (.ref (He.ga K "NoScheme")) = some false) ∧ (PySem.W.kitOne K (.ref (He.ga K "NotRight")) (.ref (He.ga K "NoRun")) = some false)
abbrev Px39 (K : PySem.W.Frag) : Prop := (PySem.W.kitOne K (.ref (He.ga K "NotRight")) (.ref (He.ga K "NotRight")) = some true) ∧ (PySem.W.kitOne K (.ref (He.ga K "NotRight")) (.ref (He.ga K "NoHands")) = some false) ∧ (PySem.W.kitOne K (.ref (He.ga K "NotRight")) (.ref (He.ga K "NoSteps")) = some false) ∧ (PySem.W.kitOne K (.ref (He.ga K "NotRight")) (.ref (He.ga K "NoChange")) = some false) ∧ (PySem.W.kitOne K (.ref (He.ga K "NotRight")) (.ref (He.ga K "RingError")) = some true) ∧ (PySem.W.kitOne K (.ref (He.ga K "NotRight")) (.type "ValueError") = some true) ∧ (PySem.W.subIn K (.ref (He.ga K "NotRight")) (.ref (He.ga K "RingError")) = some true) ∧ (PySem.W.findIn K (.ref (He.ga K "NotRight")) "__getattribute__" = some (some (.builtin "BaseException.__getattribute__"))) ∧ (PySem.W.findIn K (.ref (He.ga K "NotRight")) "__getattr__" = some none) ∧ (PySem.W.subIn K (.ref (He.ga K "NotRight")) (.type "BaseException") = some true) ∧ (PySem.W.hasDictIn K (He.ga K "NotRight") = true) ∧ (PySem.W.findIn K (.ref (He.ga K "NotRight")) "__class__" = some (some (.builtin "object.__class__")))
abbrev Px40 (K : PySem.W.Frag) : Prop := (PySem.W.mroIn K (He.ga K "NotRight") (.type "object") = some true) ∧ (PySem.W.kitOne K (.ref (He.ga K "NoHands")) (.ref (He.ga K "NoForm")) = some false) ∧ (PySem.W.kitOne K (.ref (He.ga K "NoHands")) (.ref (He.ga K "NoCounter")) = some false) ∧ (PySem.W.kitOne K (.ref (He.ga K "NoHands")) (.ref (He.ga K "NoSize")) = some false) ∧ (PySem.W.kitOne K (.ref (He.ga K "NoHands")) (.ref (He.ga K "NoRing")) = some false) ∧ (PySem.W.kitOne K (.ref (He.ga K "NoHands")) (.ref (He.ga K "Outside")) = some false) ∧ (PySem.W.kitOne K (.ref (He.ga K "NoHands")) (.ref (He.ga K "NoSet")) = some false) ∧ (PySem.W.kitOne K (.ref (He.ga K "NoHands")) (.ref (He.ga K "TooLong")) = some false) ∧ (PySem.W.kitOne K (.ref (He.ga K "NoHands")) (.ref (He.ga K "NotDecided")) = some false) ∧ (PySem.W.kitOne K (.ref (He.ga K "NoHands")) (.ref (He.ga K "NoLag")) = some false) ∧ (PySem.W.kitOne K (.ref (He.ga K "NoHands")) (.ref (He.ga K "NoRow")) = some false) ∧ (PySem.W.kitOne K (.ref (He.ga K "NoHands")) (.ref (He.ga K "NoName")) = some false)
abbrev Px41 (K : PySem.W.Frag) : Prop := (PySem.W.kitOne K (.ref (He.ga K "NoHands")) (.ref (He.ga K "Nested")) = some false) ∧ (PySem.W.kitOne K (.ref (He.ga K "NoHands")) (.ref (He.ga K "NoScheme")) = some false) ∧ (PySem.W.kitOne K (.ref (He.ga K "NoHands")) (.ref (He.ga K "NoRun")) = some false) ∧ (PySem.W.kitOne K (.ref (He.ga K "NoHands")) (.ref (He.ga K "NotRight")) = some false) ∧ (PySem.W.kitOne K (.ref (He.ga K "NoHands")) (.ref (He.ga K "NoHands")) = some true) ∧ (PySem.W.kitOne K (.ref (He.ga K "NoHands")) (.ref (He.ga K "NoSteps")) = some false) ∧ (PySem.W.kitOne K (.ref (He.ga K "NoHands")) (.ref (He.ga K "NoChange")) = some false) ∧ (PySem.W.kitOne K (.ref (He.ga K "NoHands")) (.ref (He.ga K "RingError")) = some true) ∧ (PySem.W.kitOne K (.ref (He.ga K "NoHands")) (.type "ValueError") = some true) ∧ (PySem.W.subIn K (.ref (He.ga K "NoHands")) (.ref (He.ga K "RingError")) = some true) ∧ (PySem.W.findIn K (.ref (He.ga K "NoHands")) "__getattribute__" = some (some (.builtin "BaseException.__getattribute__"))) ∧ (PySem.W.findIn K (.ref (He.ga K "NoHands")) "__getattr__" = some none)
abbrev Px42 (K : PySem.W.Frag) : Prop := (PySem.W.subIn K (.ref (He.ga K "NoHands")) (.type "BaseException") = some true) ∧ (PySem.W.hasDictIn K (He.ga K "NoHands") = true) ∧ (PySem.W.findIn K (.ref (He.ga K "NoHands")) "__class__" = some (some (.builtin "object.__class__"))) ∧ (PySem.W.mroIn K (He.ga K "NoHands") (.type "object") = some true) ∧ (PySem.W.kitOne K (.ref (He.ga K "NoSteps")) (.ref (He.ga K "NoForm")) = some false) ∧ (PySem.W.kitOne K (.ref (He.ga K "NoSteps")) (.ref (He.ga K "NoCounter")) = some false) ∧ (PySem.W.kitOne K (.ref (He.ga K "NoSteps")) (.ref (He.ga K "NoSize")) = some false) ∧ (PySem.W.kitOne K (.ref (He.ga K "NoSteps")) (.ref (He.ga K "NoRing")) = some false) ∧ (PySem.W.kitOne K (.ref (He.ga K "NoSteps")) (.ref (He.ga K "Outside")) = some false) ∧ (PySem.W.kitOne K (.ref (He.ga K "NoSteps")) (.ref (He.ga K "NoSet")) = some false) ∧ (PySem.W.kitOne K (.ref (He.ga K "NoSteps")) (.ref (He.ga K "TooLong")) = some false) ∧ (PySem.W.kitOne K (.ref (He.ga K "NoSteps")) (.ref (He.ga K "NotDecided")) = some false)
abbrev Px43 (K : PySem.W.Frag) : Prop := (PySem.W.kitOne K (.ref (He.ga K "NoSteps")) (.ref (He.ga K "NoLag")) = some false) ∧ (PySem.W.kitOne K (.ref (He.ga K "NoSteps")) (.ref (He.ga K "NoRow")) = some false) ∧ (PySem.W.kitOne K (.ref (He.ga K "NoSteps")) (.ref (He.ga K "NoName")) = some false) ∧ (PySem.W.kitOne K (.ref (He.ga K "NoSteps")) (.ref (He.ga K "Nested")) = some false) ∧ (PySem.W.kitOne K (.ref (He.ga K "NoSteps")) (.ref (He.ga K "NoScheme")) = some false) ∧ (PySem.W.kitOne K (.ref (He.ga K "NoSteps")) (.ref (He.ga K "NoRun")) = some false) ∧ (PySem.W.kitOne K (.ref (He.ga K "NoSteps")) (.ref (He.ga K "NotRight")) = some false) ∧ (PySem.W.kitOne K (.ref (He.ga K "NoSteps")) (.ref (He.ga K "NoHands")) = some false) ∧ (PySem.W.kitOne K (.ref (He.ga K "NoSteps")) (.ref (He.ga K "NoSteps")) = some true) ∧ (PySem.W.kitOne K (.ref (He.ga K "NoSteps")) (.ref (He.ga K "NoChange")) = some false) ∧ (PySem.W.kitOne K (.ref (He.ga K "NoSteps")) (.ref (He.ga K "RingError")) = some true) ∧ (PySem.W.kitOne K (.ref (He.ga K "NoSteps")) (.type "ValueError") = some true)
abbrev Px44 (K : PySem.W.Frag) : Prop := (PySem.W.subIn K (.ref (He.ga K "NoSteps")) (.ref (He.ga K "RingError")) = some true) ∧ (PySem.W.findIn K (.ref (He.ga K "NoSteps")) "__getattribute__" = some (some (.builtin "BaseException.__getattribute__"))) ∧ (PySem.W.findIn K (.ref (He.ga K "NoSteps")) "__getattr__" = some none) ∧ (PySem.W.subIn K (.ref (He.ga K "NoSteps")) (.type "BaseException") = some true) ∧ (PySem.W.hasDictIn K (He.ga K "NoSteps") = true) ∧ (PySem.W.findIn K (.ref (He.ga K "NoSteps")) "__class__" = some (some (.builtin "object.__class__"))) ∧ (PySem.W.mroIn K (He.ga K "NoSteps") (.type "object") = some true) ∧ (PySem.W.kitOne K (.ref (He.ga K "NoChange")) (.ref (He.ga K "NoForm")) = some false) ∧ (PySem.W.kitOne K (.ref (He.ga K "NoChange")) (.ref (He.ga K "NoCounter")) = some false) ∧ (PySem.W.kitOne K (.ref (He.ga K "NoChange")) (.ref (He.ga K "NoSize")) = some false) ∧ (PySem.W.kitOne K (.ref (He.ga K "NoChange")) (.ref (He.ga K "NoRing")) = some false) ∧ (PySem.W.kitOne K (.ref (He.ga K "NoChange")) (.ref (He.ga K "Outside")) = some false)
abbrev Px45 (K : PySem.W.Frag) : Prop := (PySem.W.kitOne K (.ref (He.ga K "NoChange")) (.ref (He.ga K "NoSet")) = some false) ∧ (PySem.W.kitOne K (.ref (He.ga K "NoChange")) (.ref (He.ga K "TooLong")) = some false) ∧ (PySem.W.kitOne K (.ref (He.ga K "NoChange")) (.ref (He.ga K "NotDecided")) = some false) ∧ (PySem.W.kitOne K (.ref (He.ga K "NoChange")) (.ref (He.ga K "NoLag")) = some false) ∧ (PySem.W.kitOne K (.ref (He.ga K "NoChange")) (.ref (He.ga K "NoRow")) = some false) ∧ (PySem.W.kitOne K (.ref (He.ga K "NoChange")) (.ref (He.ga K "NoName")) = some false) ∧ (PySem.W.kitOne K (.ref (He.ga K "NoChange")) (.ref (He.ga K "Nested")) = some false) ∧ (PySem.W.kitOne K (.ref (He.ga K "NoChange")) (.ref (He.ga K "NoScheme")) = some false) ∧ (PySem.W.kitOne K (.ref (He.ga K "NoChange")) (.ref (He.ga K "NoRun")) = some false) ∧ (PySem.W.kitOne K (.ref (He.ga K "NoChange")) (.ref (He.ga K "NotRight")) = some false) ∧ (PySem.W.kitOne K (.ref (He.ga K "NoChange")) (.ref (He.ga K "NoHands")) = some false) ∧ (PySem.W.kitOne K (.ref (He.ga K "NoChange")) (.ref (He.ga K "NoSteps")) = some false)
abbrev Px46 (K : PySem.W.Frag) : Prop := (PySem.W.kitOne K (.ref (He.ga K "NoChange")) (.ref (He.ga K "NoChange")) = some true) ∧ (PySem.W.kitOne K (.ref (He.ga K "NoChange")) (.ref (He.ga K "RingError")) = some true) ∧ (PySem.W.kitOne K (.ref (He.ga K "NoChange")) (.type "ValueError") = some true) ∧ (PySem.W.subIn K (.ref (He.ga K "NoChange")) (.ref (He.ga K "RingError")) = some true) ∧ (PySem.W.findIn K (.ref (He.ga K "NoChange")) "__getattribute__" = some (some (.builtin "BaseException.__getattribute__"))) ∧ (PySem.W.findIn K (.ref (He.ga K "NoChange")) "__getattr__" = some none) ∧ (PySem.W.subIn K (.ref (He.ga K "NoChange")) (.type "BaseException") = some true) ∧ (PySem.W.hasDictIn K (He.ga K "NoChange") = true) ∧ (PySem.W.findIn K (.ref (He.ga K "NoChange")) "__class__" = some (some (.builtin "object.__class__"))) ∧ (PySem.W.mroIn K (He.ga K "NoChange") (.type "object") = some true) ∧ (ExV.oexI K (He.ga K "NoScheme") = true) ∧ (PySem.W.findIn K (.ref (He.ga K "NoScheme")) "__setattr__" = some (some (.builtin "object.__setattr__")))
abbrev Px47 (K : PySem.W.Frag) : Prop := (PySem.W.typeIn K (.ref (He.ga K "NoScheme")) = some (.type "type")) ∧ (PySem.W.keepIn K (.ref (He.ga K "NoScheme")) = true) ∧ (PySem.W.findIn K (.ref (He.ga K "NoScheme")) "__init__" = some (some (.ref (He.ma K (He.ga K "NoScheme") "__init__")))) ∧ (PySem.W.typeIn K (.ref (He.ma K (He.ga K "NoScheme") "__init__")) = some (.type "function")) ∧ (PySem.W.findIn K (.ref (He.ga K "NoScheme")) "part" = some none) ∧ (ExV.oexI K (He.ga K "NoRun") = true) ∧ (PySem.W.findIn K (.ref (He.ga K "NoRun")) "__setattr__" = some (some (.builtin "object.__setattr__"))) ∧ (PySem.W.typeIn K (.ref (He.ga K "NoRun")) = some (.type "type")) ∧ (PySem.W.keepIn K (.ref (He.ga K "NoRun")) = true) ∧ (PySem.W.findIn K (.ref (He.ga K "NoRun")) "__init__" = some (some (.ref (He.ma K (He.ga K "NoRun") "__init__")))) ∧ (PySem.W.typeIn K (.ref (He.ma K (He.ga K "NoRun") "__init__")) = some (.type "function")) ∧ (PySem.W.findIn K (.ref (He.ga K "NoRun")) "at" = some none)
abbrev Px48 (K : PySem.W.Frag) : Prop := (ExV.oexI K (He.ga K "NotRight") = true) ∧ (PySem.W.findIn K (.ref (He.ga K "NotRight")) "__setattr__" = some (some (.builtin "object.__setattr__"))) ∧ (PySem.W.typeIn K (.ref (He.ga K "NotRight")) = some (.type "type")) ∧ (PySem.W.keepIn K (.ref (He.ga K "NotRight")) = true) ∧ (PySem.W.findIn K (.ref (He.ga K "NotRight")) "__init__" = some (some (.ref (He.ma K (He.ga K "NotRight") "__init__")))) ∧ (PySem.W.typeIn K (.ref (He.ma K (He.ga K "NotRight") "__init__")) = some (.type "function")) ∧ (PySem.W.findIn K (.ref (He.ga K "NotRight")) "why" = some none) ∧ (ExV.oexI K (He.ga K "NoHands") = true) ∧ (PySem.W.findIn K (.ref (He.ga K "NoHands")) "__setattr__" = some (some (.builtin "object.__setattr__"))) ∧ (PySem.W.typeIn K (.ref (He.ga K "NoHands")) = some (.type "type")) ∧ (PySem.W.keepIn K (.ref (He.ga K "NoHands")) = true) ∧ (PySem.W.findIn K (.ref (He.ga K "NoHands")) "__init__" = some (some (.ref (He.ma K (He.ga K "NoHands") "__init__"))))
abbrev Px49 (K : PySem.W.Frag) : Prop := (PySem.W.typeIn K (.ref (He.ma K (He.ga K "NoHands") "__init__")) = some (.type "function")) ∧ (PySem.W.findIn K (.ref (He.ga K "NoHands")) "part" = some none) ∧ (ExV.oexI K (He.ga K "NoSteps") = true) ∧ (PySem.W.findIn K (.ref (He.ga K "NoSteps")) "__setattr__" = some (some (.builtin "object.__setattr__"))) ∧ (PySem.W.typeIn K (.ref (He.ga K "NoSteps")) = some (.type "type")) ∧ (PySem.W.keepIn K (.ref (He.ga K "NoSteps")) = true) ∧ (PySem.W.findIn K (.ref (He.ga K "NoSteps")) "__init__" = some (some (.ref (He.ma K (He.ga K "NoSteps") "__init__")))) ∧ (PySem.W.typeIn K (.ref (He.ma K (He.ga K "NoSteps") "__init__")) = some (.type "function")) ∧ (PySem.W.findIn K (.ref (He.ga K "NoSteps")) "at" = some none) ∧ (ExV.oexI K (He.ga K "NoChange") = true) ∧ (PySem.W.findIn K (.ref (He.ga K "NoChange")) "__setattr__" = some (some (.builtin "object.__setattr__"))) ∧ (PySem.W.typeIn K (.ref (He.ga K "NoChange")) = some (.type "type"))
abbrev Px50 (K : PySem.W.Frag) : Prop := (PySem.W.keepIn K (.ref (He.ga K "NoChange")) = true) ∧ (PySem.W.findIn K (.ref (He.ga K "NoChange")) "__init__" = some (some (.ref (He.ma K (He.ga K "NoChange") "__init__")))) ∧ (PySem.W.typeIn K (.ref (He.ma K (He.ga K "NoChange") "__init__")) = some (.type "function")) ∧ (PySem.W.findIn K (.ref (He.ga K "NoChange")) "at" = some none)
def exs (K : PySem.W.Frag) : Bool := decide (Px0 K) && (decide (Px1 K) && (decide (Px2 K) && (decide (Px3 K) && (decide (Px4 K) && (decide (Px5 K) && (decide (Px6 K) && (decide (Px7 K) && (decide (Px8 K) && (decide (Px9 K) && (decide (Px10 K) && (decide (Px11 K) && (decide (Px12 K) && (decide (Px13 K) && (decide (Px14 K) && (decide (Px15 K) && (decide (Px16 K) && (decide (Px17 K) && (decide (Px18 K) && (decide (Px19 K) && (decide (Px20 K) && (decide (Px21 K) && (decide (Px22 K) && (decide (Px23 K) && (decide (Px24 K) && (decide (Px25 K) && (decide (Px26 K) && (decide (Px27 K) && (decide (Px28 K) && (decide (Px29 K) && (decide (Px30 K) && (decide (Px31 K) && (decide (Px32 K) && (decide (Px33 K) && (decide (Px34 K) && (decide (Px35 K) && (decide (Px36 K) && (decide (Px37 K) && (decide (Px38 K) && (decide (Px39 K) && (decide (Px40 K) && (decide (Px41 K) && (decide (Px42 K) && (decide (Px43 K) && (decide (Px44 K) && (decide (Px45 K) && (decide (Px46 K) && (decide (Px47 K) && (decide (Px48 K) && (decide (Px49 K) && (decide (Px50 K) && (true)))))))))))))))))))))))))))))))))))))))))))))))))))
def df0 : Hd.Df := ⟨fun K => (He.ma K (He.ga K "NoScheme") "__init__"), "__init__", "NoScheme.__init__", s_NoSchemeu__initu_, [], []⟩
def df1 : Hd.Df := ⟨fun K => (He.ma K (He.ga K "NoRun") "__init__"), "__init__", "NoRun.__init__", s_NoRunu__initu_, [], []⟩
def df2 : Hd.Df := ⟨fun K => (He.ma K (He.ga K "NotRight") "__init__"), "__init__", "NotRight.__init__", s_NotRightu__initu_, [], []⟩
def df3 : Hd.Df := ⟨fun K => (He.ma K (He.ga K "NoHands") "__init__"), "__init__", "NoHands.__init__", s_NoHandsu__initu_, [], []⟩
def df4 : Hd.Df := ⟨fun K => (He.ma K (He.ga K "NoSteps") "__init__"), "__init__", "NoSteps.__init__", s_NoStepsu__initu_, [], []⟩
def df5 : Hd.Df := ⟨fun K => (He.ma K (He.ga K "NoChange") "__init__"), "__init__", "NoChange.__init__", s_NoChangeu__initu_, [], []⟩
def df6 : Hd.Df := ⟨fun K => (He.ga K "_law_cell"), "_law_cell", "_law_cell", s_l_cell, [], []⟩
def df7 : Hd.Df := ⟨fun K => (He.ga K "_law_parts"), "_law_parts", "_law_parts", s_l_parts, [], []⟩
def df8 : Hd.Df := ⟨fun K => (He.ga K "_law_of_text"), "_law_of_text", "_law_of_text", s_l_of_text, [], []⟩
def df9 : Hd.Df := ⟨fun K => (He.ga K "_law_of_parts"), "_law_of_parts", "_law_of_parts", s_l_of_parts, [], []⟩
def df10 : Hd.Df := ⟨fun K => (He.ga K "_law_flags"), "_law_flags", "_law_flags", s_l_flags, [], []⟩
def df11 : Hd.Df := ⟨fun K => (He.ga K "_law_kept"), "_law_kept", "_law_kept", s_l_kept, [], []⟩
def df12 : Hd.Df := ⟨fun K => (He.ga K "law"), "law", "law", s_law, [], []⟩
def fns : List Hd.Df := [df0, df1, df2, df3, df4, df5, df6, df7, df8, df9, df10, df11, df12]
def nm0 : List Str := ["RingError", "NoForm", "NoCounter", "NoSize", "NoRing", "Outside", "NoSet", "TooLong", "NotDecided", "NoLag", "NoRow", "NoName", "Nested", "NoScheme", "NoRun", "NotRight", "NoHands", "NoSteps", "NoChange", "_law_cell", "_law_parts", "_law_of_text", "_law_of_parts", "_law_flags", "_law_kept"]
def loose : List Str := nm0
def tbs : List He.Tab := []
abbrev hk : PySem.W.Hook := Hd.hook 6 fns tbs exs
def ob (s : PySem.W.SharedT) : Hd.Al := Hd.ob 6 fns tbs exs s
theorem ob_is (s : PySem.W.SharedT) : ob s = hk.obs s.abs := Hd.ob_eq s
theorem run_false (w : World) : HandSHeadRun.RunEq R (PySem.W.view R.prog [27]) hk ob 200000 loose (w.withFollow "special-get-raises" false) := fun os => by kernel_rfl
theorem run_true (w : World) : HandSHeadRun.RunEq R (PySem.W.view R.prog [27]) hk ob 200000 loose (w.withFollow "special-get-raises" true) := fun os => by kernel_rfl
theorem run (w : World) : HandSHeadRun.RunEq R (PySem.W.view R.prog [27]) hk ob 200000 loose w := PySem.W.byRow2 "special-get-raises" (P := fun w => HandSHeadRun.RunEq R (PySem.W.view R.prog [27]) hk ob 200000 loose w) run_false run_true w
structure Txt (w : World) (K : PySem.W.Frag) (mg : Str → Option Value) (A : Adr) : Prop where
  n_len : mg "len" = none
  n_int : mg "int" = none
  n_range : mg "range" = none
  n_max : mg "max" = none
  n_min : mg "min" = none
  n_isinstance : mg "isinstance" = none
  n_repr : mg "repr" = none
  n_str : mg "str" = none
  n_ValueError : mg "ValueError" = none
  m_NoForm : mg "NoForm" = some (.ref A.c_NoForm)
  x_NoForm : PySem.W.excIn K A.c_NoForm [.type "ValueError", .type "Exception", .type "BaseException", .type "object"] "ValueError.__new__" = true
  kp_NoForm : PySem.W.keepIn K (.ref A.c_NoForm) = true
  sb_NoForm : PySem.W.subIn K (.ref A.c_NoForm) (.type "BaseException") = some true
  tc_NoForm : PySem.W.typeIn K (.ref A.c_NoForm) = some (.type "type")
  m_NoCounter : mg "NoCounter" = some (.ref A.c_NoCounter)
  x_NoCounter : PySem.W.excIn K A.c_NoCounter [.type "ValueError", .type "Exception", .type "BaseException", .type "object"] "ValueError.__new__" = true
  kp_NoCounter : PySem.W.keepIn K (.ref A.c_NoCounter) = true
  sb_NoCounter : PySem.W.subIn K (.ref A.c_NoCounter) (.type "BaseException") = some true
  tc_NoCounter : PySem.W.typeIn K (.ref A.c_NoCounter) = some (.type "type")
  m_NoSize : mg "NoSize" = some (.ref A.c_NoSize)
  x_NoSize : PySem.W.excIn K A.c_NoSize [.type "ValueError", .type "Exception", .type "BaseException", .type "object"] "ValueError.__new__" = true
  kp_NoSize : PySem.W.keepIn K (.ref A.c_NoSize) = true
  sb_NoSize : PySem.W.subIn K (.ref A.c_NoSize) (.type "BaseException") = some true
  tc_NoSize : PySem.W.typeIn K (.ref A.c_NoSize) = some (.type "type")
  m_NoRing : mg "NoRing" = some (.ref A.c_NoRing)
  x_NoRing : PySem.W.excIn K A.c_NoRing [.type "ValueError", .type "Exception", .type "BaseException", .type "object"] "ValueError.__new__" = true
  kp_NoRing : PySem.W.keepIn K (.ref A.c_NoRing) = true
  sb_NoRing : PySem.W.subIn K (.ref A.c_NoRing) (.type "BaseException") = some true
  tc_NoRing : PySem.W.typeIn K (.ref A.c_NoRing) = some (.type "type")
  m_Outside : mg "Outside" = some (.ref A.c_Outside)
  x_Outside : PySem.W.excIn K A.c_Outside [.type "ValueError", .type "Exception", .type "BaseException", .type "object"] "ValueError.__new__" = true
  kp_Outside : PySem.W.keepIn K (.ref A.c_Outside) = true
  sb_Outside : PySem.W.subIn K (.ref A.c_Outside) (.type "BaseException") = some true
  tc_Outside : PySem.W.typeIn K (.ref A.c_Outside) = some (.type "type")
  m_NoSet : mg "NoSet" = some (.ref A.c_NoSet)
  x_NoSet : PySem.W.excIn K A.c_NoSet [.type "ValueError", .type "Exception", .type "BaseException", .type "object"] "ValueError.__new__" = true
  kp_NoSet : PySem.W.keepIn K (.ref A.c_NoSet) = true
  sb_NoSet : PySem.W.subIn K (.ref A.c_NoSet) (.type "BaseException") = some true
  tc_NoSet : PySem.W.typeIn K (.ref A.c_NoSet) = some (.type "type")
  m_TooLong : mg "TooLong" = some (.ref A.c_TooLong)
  x_TooLong : PySem.W.excIn K A.c_TooLong [.type "ValueError", .type "Exception", .type "BaseException", .type "object"] "ValueError.__new__" = true
  kp_TooLong : PySem.W.keepIn K (.ref A.c_TooLong) = true
  sb_TooLong : PySem.W.subIn K (.ref A.c_TooLong) (.type "BaseException") = some true
  tc_TooLong : PySem.W.typeIn K (.ref A.c_TooLong) = some (.type "type")
  m_NotDecided : mg "NotDecided" = some (.ref A.c_NotDecided)
  x_NotDecided : PySem.W.excIn K A.c_NotDecided [.type "ValueError", .type "Exception", .type "BaseException", .type "object"] "ValueError.__new__" = true
  kp_NotDecided : PySem.W.keepIn K (.ref A.c_NotDecided) = true
  sb_NotDecided : PySem.W.subIn K (.ref A.c_NotDecided) (.type "BaseException") = some true
  tc_NotDecided : PySem.W.typeIn K (.ref A.c_NotDecided) = some (.type "type")
  m_NoLag : mg "NoLag" = some (.ref A.c_NoLag)
  x_NoLag : PySem.W.excIn K A.c_NoLag [.type "ValueError", .type "Exception", .type "BaseException", .type "object"] "ValueError.__new__" = true
  kp_NoLag : PySem.W.keepIn K (.ref A.c_NoLag) = true
  sb_NoLag : PySem.W.subIn K (.ref A.c_NoLag) (.type "BaseException") = some true
  tc_NoLag : PySem.W.typeIn K (.ref A.c_NoLag) = some (.type "type")
  m_NoRow : mg "NoRow" = some (.ref A.c_NoRow)
  x_NoRow : PySem.W.excIn K A.c_NoRow [.type "ValueError", .type "Exception", .type "BaseException", .type "object"] "ValueError.__new__" = true
  kp_NoRow : PySem.W.keepIn K (.ref A.c_NoRow) = true
  sb_NoRow : PySem.W.subIn K (.ref A.c_NoRow) (.type "BaseException") = some true
  tc_NoRow : PySem.W.typeIn K (.ref A.c_NoRow) = some (.type "type")
  m_NoName : mg "NoName" = some (.ref A.c_NoName)
  x_NoName : PySem.W.excIn K A.c_NoName [.type "ValueError", .type "Exception", .type "BaseException", .type "object"] "ValueError.__new__" = true
  kp_NoName : PySem.W.keepIn K (.ref A.c_NoName) = true
  sb_NoName : PySem.W.subIn K (.ref A.c_NoName) (.type "BaseException") = some true
  tc_NoName : PySem.W.typeIn K (.ref A.c_NoName) = some (.type "type")
  m_Nested : mg "Nested" = some (.ref A.c_Nested)
  x_Nested : PySem.W.excIn K A.c_Nested [.type "ValueError", .type "Exception", .type "BaseException", .type "object"] "ValueError.__new__" = true
  kp_Nested : PySem.W.keepIn K (.ref A.c_Nested) = true
  sb_Nested : PySem.W.subIn K (.ref A.c_Nested) (.type "BaseException") = some true
  tc_Nested : PySem.W.typeIn K (.ref A.c_Nested) = some (.type "type")
  m_NoScheme : mg "NoScheme" = some (.ref A.c_NoScheme)
  m_NoRun : mg "NoRun" = some (.ref A.c_NoRun)
  m_NotRight : mg "NotRight" = some (.ref A.c_NotRight)
  m_NoHands : mg "NoHands" = some (.ref A.c_NoHands)
  m_NoSteps : mg "NoSteps" = some (.ref A.c_NoSteps)
  m_NoChange : mg "NoChange" = some (.ref A.c_NoChange)
  m_RingError : mg "RingError" = some (.ref A.c_RingError)
  F_NoSchemeu__initu_ : Fun K "__init__" "NoScheme.__init__" s_NoSchemeu__initu_ A.f_NoSchemeu__initu_ A.d_NoSchemeu__initu_
  b_NoSchemeu__initu_ : Binds K A.d_NoSchemeu__initu_ ["self", "part"] []
  F_NoRunu__initu_ : Fun K "__init__" "NoRun.__init__" s_NoRunu__initu_ A.f_NoRunu__initu_ A.d_NoRunu__initu_
  b_NoRunu__initu_ : Binds K A.d_NoRunu__initu_ ["self", "at"] []
  F_NotRightu__initu_ : Fun K "__init__" "NotRight.__init__" s_NotRightu__initu_ A.f_NotRightu__initu_ A.d_NotRightu__initu_
  b_NotRightu__initu_ : Binds K A.d_NotRightu__initu_ ["self", "why"] []
  F_NoHandsu__initu_ : Fun K "__init__" "NoHands.__init__" s_NoHandsu__initu_ A.f_NoHandsu__initu_ A.d_NoHandsu__initu_
  b_NoHandsu__initu_ : Binds K A.d_NoHandsu__initu_ ["self", "part"] []
  F_NoStepsu__initu_ : Fun K "__init__" "NoSteps.__init__" s_NoStepsu__initu_ A.f_NoStepsu__initu_ A.d_NoStepsu__initu_
  b_NoStepsu__initu_ : Binds K A.d_NoStepsu__initu_ ["self", "at"] []
  F_NoChangeu__initu_ : Fun K "__init__" "NoChange.__init__" s_NoChangeu__initu_ A.f_NoChangeu__initu_ A.d_NoChangeu__initu_
  b_NoChangeu__initu_ : Binds K A.d_NoChangeu__initu_ ["self", "at"] []
  m_l_cell : mg "_law_cell" = some (.ref A.f_l_cell)
  F_l_cell : Fun K "_law_cell" "_law_cell" s_l_cell A.f_l_cell A.d_l_cell
  b_l_cell : Binds K A.d_l_cell ["_law_script", "_law_turn"] []
  m_l_parts : mg "_law_parts" = some (.ref A.f_l_parts)
  F_l_parts : Fun K "_law_parts" "_law_parts" s_l_parts A.f_l_parts A.d_l_parts
  b_l_parts : Binds K A.d_l_parts ["_law_cell_here"] []
  m_l_of_text : mg "_law_of_text" = some (.ref A.f_l_of_text)
  F_l_of_text : Fun K "_law_of_text" "_law_of_text" s_l_of_text A.f_l_of_text A.d_l_of_text
  b_l_of_text : Binds K A.d_l_of_text ["_law_text"] []
  m_l_of_parts : mg "_law_of_parts" = some (.ref A.f_l_of_parts)
  F_l_of_parts : Fun K "_law_of_parts" "_law_of_parts" s_l_of_parts A.f_l_of_parts A.d_l_of_parts
  b_l_of_parts : Binds K A.d_l_of_parts ["_law_parts_here"] []
  m_l_flags : mg "_law_flags" = some (.ref A.f_l_flags)
  F_l_flags : Fun K "_law_flags" "_law_flags" s_l_flags A.f_l_flags A.d_l_flags
  b_l_flags : Binds K A.d_l_flags ["_law_e"] []
  m_l_kept : mg "_law_kept" = some (.ref A.f_l_kept)
  F_l_kept : Fun K "_law_kept" "_law_kept" s_l_kept A.f_l_kept A.d_l_kept
  b_l_kept : Binds K A.d_l_kept ["_law_parts_here"] []
  m_law : mg "law" = some (.ref A.f_law)
  F_law : Fun K "law" "law" s_law A.f_law A.d_law
  b_law : Binds K A.d_law ["_law_script"] []
  qt_NoForm_in_NoForm : PySem.W.kitOne K (.ref A.c_NoForm) (.ref A.c_NoForm) = some true
  qt_NoForm_in_NoCounter : PySem.W.kitOne K (.ref A.c_NoForm) (.ref A.c_NoCounter) = some false
  qt_NoForm_in_NoSize : PySem.W.kitOne K (.ref A.c_NoForm) (.ref A.c_NoSize) = some false
  qt_NoForm_in_NoRing : PySem.W.kitOne K (.ref A.c_NoForm) (.ref A.c_NoRing) = some false
  qt_NoForm_in_Outside : PySem.W.kitOne K (.ref A.c_NoForm) (.ref A.c_Outside) = some false
  qt_NoForm_in_NoSet : PySem.W.kitOne K (.ref A.c_NoForm) (.ref A.c_NoSet) = some false
  qt_NoForm_in_TooLong : PySem.W.kitOne K (.ref A.c_NoForm) (.ref A.c_TooLong) = some false
  qt_NoForm_in_NotDecided : PySem.W.kitOne K (.ref A.c_NoForm) (.ref A.c_NotDecided) = some false
  qt_NoForm_in_NoLag : PySem.W.kitOne K (.ref A.c_NoForm) (.ref A.c_NoLag) = some false
  qt_NoForm_in_NoRow : PySem.W.kitOne K (.ref A.c_NoForm) (.ref A.c_NoRow) = some false
  qt_NoForm_in_NoName : PySem.W.kitOne K (.ref A.c_NoForm) (.ref A.c_NoName) = some false
  qt_NoForm_in_Nested : PySem.W.kitOne K (.ref A.c_NoForm) (.ref A.c_Nested) = some false
  qt_NoForm_in_NoScheme : PySem.W.kitOne K (.ref A.c_NoForm) (.ref A.c_NoScheme) = some false
  qt_NoForm_in_NoRun : PySem.W.kitOne K (.ref A.c_NoForm) (.ref A.c_NoRun) = some false
  qt_NoForm_in_NotRight : PySem.W.kitOne K (.ref A.c_NoForm) (.ref A.c_NotRight) = some false
  qt_NoForm_in_NoHands : PySem.W.kitOne K (.ref A.c_NoForm) (.ref A.c_NoHands) = some false
  qt_NoForm_in_NoSteps : PySem.W.kitOne K (.ref A.c_NoForm) (.ref A.c_NoSteps) = some false
  qt_NoForm_in_NoChange : PySem.W.kitOne K (.ref A.c_NoForm) (.ref A.c_NoChange) = some false
  qt_NoForm_in_RingError : PySem.W.kitOne K (.ref A.c_NoForm) (.ref A.c_RingError) = some true
  qt_NoForm_in_VE : PySem.W.kitOne K (.ref A.c_NoForm) (.type "ValueError") = some true
  xm_NoForm : PySem.W.exmOne K (.ref A.c_NoForm) (.ref A.c_RingError) = some true
  ec_NoForm : L2.ExcC K A.c_NoForm
  qt_NoCounter_in_NoForm : PySem.W.kitOne K (.ref A.c_NoCounter) (.ref A.c_NoForm) = some false
  qt_NoCounter_in_NoCounter : PySem.W.kitOne K (.ref A.c_NoCounter) (.ref A.c_NoCounter) = some true
  qt_NoCounter_in_NoSize : PySem.W.kitOne K (.ref A.c_NoCounter) (.ref A.c_NoSize) = some false
  qt_NoCounter_in_NoRing : PySem.W.kitOne K (.ref A.c_NoCounter) (.ref A.c_NoRing) = some false
  qt_NoCounter_in_Outside : PySem.W.kitOne K (.ref A.c_NoCounter) (.ref A.c_Outside) = some false
  qt_NoCounter_in_NoSet : PySem.W.kitOne K (.ref A.c_NoCounter) (.ref A.c_NoSet) = some false
  qt_NoCounter_in_TooLong : PySem.W.kitOne K (.ref A.c_NoCounter) (.ref A.c_TooLong) = some false
  qt_NoCounter_in_NotDecided : PySem.W.kitOne K (.ref A.c_NoCounter) (.ref A.c_NotDecided) = some false
  qt_NoCounter_in_NoLag : PySem.W.kitOne K (.ref A.c_NoCounter) (.ref A.c_NoLag) = some false
  qt_NoCounter_in_NoRow : PySem.W.kitOne K (.ref A.c_NoCounter) (.ref A.c_NoRow) = some false
  qt_NoCounter_in_NoName : PySem.W.kitOne K (.ref A.c_NoCounter) (.ref A.c_NoName) = some false
  qt_NoCounter_in_Nested : PySem.W.kitOne K (.ref A.c_NoCounter) (.ref A.c_Nested) = some false
  qt_NoCounter_in_NoScheme : PySem.W.kitOne K (.ref A.c_NoCounter) (.ref A.c_NoScheme) = some false
  qt_NoCounter_in_NoRun : PySem.W.kitOne K (.ref A.c_NoCounter) (.ref A.c_NoRun) = some false
  qt_NoCounter_in_NotRight : PySem.W.kitOne K (.ref A.c_NoCounter) (.ref A.c_NotRight) = some false
  qt_NoCounter_in_NoHands : PySem.W.kitOne K (.ref A.c_NoCounter) (.ref A.c_NoHands) = some false
  qt_NoCounter_in_NoSteps : PySem.W.kitOne K (.ref A.c_NoCounter) (.ref A.c_NoSteps) = some false
  qt_NoCounter_in_NoChange : PySem.W.kitOne K (.ref A.c_NoCounter) (.ref A.c_NoChange) = some false
  qt_NoCounter_in_RingError : PySem.W.kitOne K (.ref A.c_NoCounter) (.ref A.c_RingError) = some true
  qt_NoCounter_in_VE : PySem.W.kitOne K (.ref A.c_NoCounter) (.type "ValueError") = some true
  xm_NoCounter : PySem.W.exmOne K (.ref A.c_NoCounter) (.ref A.c_RingError) = some true
  ec_NoCounter : L2.ExcC K A.c_NoCounter
  qt_NoSize_in_NoForm : PySem.W.kitOne K (.ref A.c_NoSize) (.ref A.c_NoForm) = some false
  qt_NoSize_in_NoCounter : PySem.W.kitOne K (.ref A.c_NoSize) (.ref A.c_NoCounter) = some false
  qt_NoSize_in_NoSize : PySem.W.kitOne K (.ref A.c_NoSize) (.ref A.c_NoSize) = some true
  qt_NoSize_in_NoRing : PySem.W.kitOne K (.ref A.c_NoSize) (.ref A.c_NoRing) = some false
  qt_NoSize_in_Outside : PySem.W.kitOne K (.ref A.c_NoSize) (.ref A.c_Outside) = some false
  qt_NoSize_in_NoSet : PySem.W.kitOne K (.ref A.c_NoSize) (.ref A.c_NoSet) = some false
  qt_NoSize_in_TooLong : PySem.W.kitOne K (.ref A.c_NoSize) (.ref A.c_TooLong) = some false
  qt_NoSize_in_NotDecided : PySem.W.kitOne K (.ref A.c_NoSize) (.ref A.c_NotDecided) = some false
  qt_NoSize_in_NoLag : PySem.W.kitOne K (.ref A.c_NoSize) (.ref A.c_NoLag) = some false
  qt_NoSize_in_NoRow : PySem.W.kitOne K (.ref A.c_NoSize) (.ref A.c_NoRow) = some false
  qt_NoSize_in_NoName : PySem.W.kitOne K (.ref A.c_NoSize) (.ref A.c_NoName) = some false
  qt_NoSize_in_Nested : PySem.W.kitOne K (.ref A.c_NoSize) (.ref A.c_Nested) = some false
  qt_NoSize_in_NoScheme : PySem.W.kitOne K (.ref A.c_NoSize) (.ref A.c_NoScheme) = some false
  qt_NoSize_in_NoRun : PySem.W.kitOne K (.ref A.c_NoSize) (.ref A.c_NoRun) = some false
  qt_NoSize_in_NotRight : PySem.W.kitOne K (.ref A.c_NoSize) (.ref A.c_NotRight) = some false
  qt_NoSize_in_NoHands : PySem.W.kitOne K (.ref A.c_NoSize) (.ref A.c_NoHands) = some false
  qt_NoSize_in_NoSteps : PySem.W.kitOne K (.ref A.c_NoSize) (.ref A.c_NoSteps) = some false
  qt_NoSize_in_NoChange : PySem.W.kitOne K (.ref A.c_NoSize) (.ref A.c_NoChange) = some false
  qt_NoSize_in_RingError : PySem.W.kitOne K (.ref A.c_NoSize) (.ref A.c_RingError) = some true
  qt_NoSize_in_VE : PySem.W.kitOne K (.ref A.c_NoSize) (.type "ValueError") = some true
  xm_NoSize : PySem.W.exmOne K (.ref A.c_NoSize) (.ref A.c_RingError) = some true
  ec_NoSize : L2.ExcC K A.c_NoSize
  qt_NoRing_in_NoForm : PySem.W.kitOne K (.ref A.c_NoRing) (.ref A.c_NoForm) = some false
  qt_NoRing_in_NoCounter : PySem.W.kitOne K (.ref A.c_NoRing) (.ref A.c_NoCounter) = some false
  qt_NoRing_in_NoSize : PySem.W.kitOne K (.ref A.c_NoRing) (.ref A.c_NoSize) = some false
  qt_NoRing_in_NoRing : PySem.W.kitOne K (.ref A.c_NoRing) (.ref A.c_NoRing) = some true
  qt_NoRing_in_Outside : PySem.W.kitOne K (.ref A.c_NoRing) (.ref A.c_Outside) = some false
  qt_NoRing_in_NoSet : PySem.W.kitOne K (.ref A.c_NoRing) (.ref A.c_NoSet) = some false
  qt_NoRing_in_TooLong : PySem.W.kitOne K (.ref A.c_NoRing) (.ref A.c_TooLong) = some false
  qt_NoRing_in_NotDecided : PySem.W.kitOne K (.ref A.c_NoRing) (.ref A.c_NotDecided) = some false
  qt_NoRing_in_NoLag : PySem.W.kitOne K (.ref A.c_NoRing) (.ref A.c_NoLag) = some false
  qt_NoRing_in_NoRow : PySem.W.kitOne K (.ref A.c_NoRing) (.ref A.c_NoRow) = some false
  qt_NoRing_in_NoName : PySem.W.kitOne K (.ref A.c_NoRing) (.ref A.c_NoName) = some false
  qt_NoRing_in_Nested : PySem.W.kitOne K (.ref A.c_NoRing) (.ref A.c_Nested) = some false
  qt_NoRing_in_NoScheme : PySem.W.kitOne K (.ref A.c_NoRing) (.ref A.c_NoScheme) = some false
  qt_NoRing_in_NoRun : PySem.W.kitOne K (.ref A.c_NoRing) (.ref A.c_NoRun) = some false
  qt_NoRing_in_NotRight : PySem.W.kitOne K (.ref A.c_NoRing) (.ref A.c_NotRight) = some false
  qt_NoRing_in_NoHands : PySem.W.kitOne K (.ref A.c_NoRing) (.ref A.c_NoHands) = some false
  qt_NoRing_in_NoSteps : PySem.W.kitOne K (.ref A.c_NoRing) (.ref A.c_NoSteps) = some false
  qt_NoRing_in_NoChange : PySem.W.kitOne K (.ref A.c_NoRing) (.ref A.c_NoChange) = some false
  qt_NoRing_in_RingError : PySem.W.kitOne K (.ref A.c_NoRing) (.ref A.c_RingError) = some true
  qt_NoRing_in_VE : PySem.W.kitOne K (.ref A.c_NoRing) (.type "ValueError") = some true
  xm_NoRing : PySem.W.exmOne K (.ref A.c_NoRing) (.ref A.c_RingError) = some true
  ec_NoRing : L2.ExcC K A.c_NoRing
  qt_Outside_in_NoForm : PySem.W.kitOne K (.ref A.c_Outside) (.ref A.c_NoForm) = some false
  qt_Outside_in_NoCounter : PySem.W.kitOne K (.ref A.c_Outside) (.ref A.c_NoCounter) = some false
  qt_Outside_in_NoSize : PySem.W.kitOne K (.ref A.c_Outside) (.ref A.c_NoSize) = some false
  qt_Outside_in_NoRing : PySem.W.kitOne K (.ref A.c_Outside) (.ref A.c_NoRing) = some false
  qt_Outside_in_Outside : PySem.W.kitOne K (.ref A.c_Outside) (.ref A.c_Outside) = some true
  qt_Outside_in_NoSet : PySem.W.kitOne K (.ref A.c_Outside) (.ref A.c_NoSet) = some false
  qt_Outside_in_TooLong : PySem.W.kitOne K (.ref A.c_Outside) (.ref A.c_TooLong) = some false
  qt_Outside_in_NotDecided : PySem.W.kitOne K (.ref A.c_Outside) (.ref A.c_NotDecided) = some false
  qt_Outside_in_NoLag : PySem.W.kitOne K (.ref A.c_Outside) (.ref A.c_NoLag) = some false
  qt_Outside_in_NoRow : PySem.W.kitOne K (.ref A.c_Outside) (.ref A.c_NoRow) = some false
  qt_Outside_in_NoName : PySem.W.kitOne K (.ref A.c_Outside) (.ref A.c_NoName) = some false
  qt_Outside_in_Nested : PySem.W.kitOne K (.ref A.c_Outside) (.ref A.c_Nested) = some false
  qt_Outside_in_NoScheme : PySem.W.kitOne K (.ref A.c_Outside) (.ref A.c_NoScheme) = some false
  qt_Outside_in_NoRun : PySem.W.kitOne K (.ref A.c_Outside) (.ref A.c_NoRun) = some false
  qt_Outside_in_NotRight : PySem.W.kitOne K (.ref A.c_Outside) (.ref A.c_NotRight) = some false
  qt_Outside_in_NoHands : PySem.W.kitOne K (.ref A.c_Outside) (.ref A.c_NoHands) = some false
  qt_Outside_in_NoSteps : PySem.W.kitOne K (.ref A.c_Outside) (.ref A.c_NoSteps) = some false
  qt_Outside_in_NoChange : PySem.W.kitOne K (.ref A.c_Outside) (.ref A.c_NoChange) = some false
  qt_Outside_in_RingError : PySem.W.kitOne K (.ref A.c_Outside) (.ref A.c_RingError) = some true
  qt_Outside_in_VE : PySem.W.kitOne K (.ref A.c_Outside) (.type "ValueError") = some true
  xm_Outside : PySem.W.exmOne K (.ref A.c_Outside) (.ref A.c_RingError) = some true
  ec_Outside : L2.ExcC K A.c_Outside
  qt_NoSet_in_NoForm : PySem.W.kitOne K (.ref A.c_NoSet) (.ref A.c_NoForm) = some false
  qt_NoSet_in_NoCounter : PySem.W.kitOne K (.ref A.c_NoSet) (.ref A.c_NoCounter) = some false
  qt_NoSet_in_NoSize : PySem.W.kitOne K (.ref A.c_NoSet) (.ref A.c_NoSize) = some false
  qt_NoSet_in_NoRing : PySem.W.kitOne K (.ref A.c_NoSet) (.ref A.c_NoRing) = some false
  qt_NoSet_in_Outside : PySem.W.kitOne K (.ref A.c_NoSet) (.ref A.c_Outside) = some false
  qt_NoSet_in_NoSet : PySem.W.kitOne K (.ref A.c_NoSet) (.ref A.c_NoSet) = some true
  qt_NoSet_in_TooLong : PySem.W.kitOne K (.ref A.c_NoSet) (.ref A.c_TooLong) = some false
  qt_NoSet_in_NotDecided : PySem.W.kitOne K (.ref A.c_NoSet) (.ref A.c_NotDecided) = some false
  qt_NoSet_in_NoLag : PySem.W.kitOne K (.ref A.c_NoSet) (.ref A.c_NoLag) = some false
  qt_NoSet_in_NoRow : PySem.W.kitOne K (.ref A.c_NoSet) (.ref A.c_NoRow) = some false
  qt_NoSet_in_NoName : PySem.W.kitOne K (.ref A.c_NoSet) (.ref A.c_NoName) = some false
  qt_NoSet_in_Nested : PySem.W.kitOne K (.ref A.c_NoSet) (.ref A.c_Nested) = some false
  qt_NoSet_in_NoScheme : PySem.W.kitOne K (.ref A.c_NoSet) (.ref A.c_NoScheme) = some false
  qt_NoSet_in_NoRun : PySem.W.kitOne K (.ref A.c_NoSet) (.ref A.c_NoRun) = some false
  qt_NoSet_in_NotRight : PySem.W.kitOne K (.ref A.c_NoSet) (.ref A.c_NotRight) = some false
  qt_NoSet_in_NoHands : PySem.W.kitOne K (.ref A.c_NoSet) (.ref A.c_NoHands) = some false
  qt_NoSet_in_NoSteps : PySem.W.kitOne K (.ref A.c_NoSet) (.ref A.c_NoSteps) = some false
  qt_NoSet_in_NoChange : PySem.W.kitOne K (.ref A.c_NoSet) (.ref A.c_NoChange) = some false
  qt_NoSet_in_RingError : PySem.W.kitOne K (.ref A.c_NoSet) (.ref A.c_RingError) = some true
  qt_NoSet_in_VE : PySem.W.kitOne K (.ref A.c_NoSet) (.type "ValueError") = some true
  xm_NoSet : PySem.W.exmOne K (.ref A.c_NoSet) (.ref A.c_RingError) = some true
  ec_NoSet : L2.ExcC K A.c_NoSet
  qt_TooLong_in_NoForm : PySem.W.kitOne K (.ref A.c_TooLong) (.ref A.c_NoForm) = some false
  qt_TooLong_in_NoCounter : PySem.W.kitOne K (.ref A.c_TooLong) (.ref A.c_NoCounter) = some false
  qt_TooLong_in_NoSize : PySem.W.kitOne K (.ref A.c_TooLong) (.ref A.c_NoSize) = some false
  qt_TooLong_in_NoRing : PySem.W.kitOne K (.ref A.c_TooLong) (.ref A.c_NoRing) = some false
  qt_TooLong_in_Outside : PySem.W.kitOne K (.ref A.c_TooLong) (.ref A.c_Outside) = some false
  qt_TooLong_in_NoSet : PySem.W.kitOne K (.ref A.c_TooLong) (.ref A.c_NoSet) = some false
  qt_TooLong_in_TooLong : PySem.W.kitOne K (.ref A.c_TooLong) (.ref A.c_TooLong) = some true
  qt_TooLong_in_NotDecided : PySem.W.kitOne K (.ref A.c_TooLong) (.ref A.c_NotDecided) = some false
  qt_TooLong_in_NoLag : PySem.W.kitOne K (.ref A.c_TooLong) (.ref A.c_NoLag) = some false
  qt_TooLong_in_NoRow : PySem.W.kitOne K (.ref A.c_TooLong) (.ref A.c_NoRow) = some false
  qt_TooLong_in_NoName : PySem.W.kitOne K (.ref A.c_TooLong) (.ref A.c_NoName) = some false
  qt_TooLong_in_Nested : PySem.W.kitOne K (.ref A.c_TooLong) (.ref A.c_Nested) = some false
  qt_TooLong_in_NoScheme : PySem.W.kitOne K (.ref A.c_TooLong) (.ref A.c_NoScheme) = some false
  qt_TooLong_in_NoRun : PySem.W.kitOne K (.ref A.c_TooLong) (.ref A.c_NoRun) = some false
  qt_TooLong_in_NotRight : PySem.W.kitOne K (.ref A.c_TooLong) (.ref A.c_NotRight) = some false
  qt_TooLong_in_NoHands : PySem.W.kitOne K (.ref A.c_TooLong) (.ref A.c_NoHands) = some false
  qt_TooLong_in_NoSteps : PySem.W.kitOne K (.ref A.c_TooLong) (.ref A.c_NoSteps) = some false
  qt_TooLong_in_NoChange : PySem.W.kitOne K (.ref A.c_TooLong) (.ref A.c_NoChange) = some false
  qt_TooLong_in_RingError : PySem.W.kitOne K (.ref A.c_TooLong) (.ref A.c_RingError) = some true
  qt_TooLong_in_VE : PySem.W.kitOne K (.ref A.c_TooLong) (.type "ValueError") = some true
  xm_TooLong : PySem.W.exmOne K (.ref A.c_TooLong) (.ref A.c_RingError) = some true
  ec_TooLong : L2.ExcC K A.c_TooLong
  qt_NotDecided_in_NoForm : PySem.W.kitOne K (.ref A.c_NotDecided) (.ref A.c_NoForm) = some false
  qt_NotDecided_in_NoCounter : PySem.W.kitOne K (.ref A.c_NotDecided) (.ref A.c_NoCounter) = some false
  qt_NotDecided_in_NoSize : PySem.W.kitOne K (.ref A.c_NotDecided) (.ref A.c_NoSize) = some false
  qt_NotDecided_in_NoRing : PySem.W.kitOne K (.ref A.c_NotDecided) (.ref A.c_NoRing) = some false
  qt_NotDecided_in_Outside : PySem.W.kitOne K (.ref A.c_NotDecided) (.ref A.c_Outside) = some false
  qt_NotDecided_in_NoSet : PySem.W.kitOne K (.ref A.c_NotDecided) (.ref A.c_NoSet) = some false
  qt_NotDecided_in_TooLong : PySem.W.kitOne K (.ref A.c_NotDecided) (.ref A.c_TooLong) = some false
  qt_NotDecided_in_NotDecided : PySem.W.kitOne K (.ref A.c_NotDecided) (.ref A.c_NotDecided) = some true
  qt_NotDecided_in_NoLag : PySem.W.kitOne K (.ref A.c_NotDecided) (.ref A.c_NoLag) = some false
  qt_NotDecided_in_NoRow : PySem.W.kitOne K (.ref A.c_NotDecided) (.ref A.c_NoRow) = some false
  qt_NotDecided_in_NoName : PySem.W.kitOne K (.ref A.c_NotDecided) (.ref A.c_NoName) = some false
  qt_NotDecided_in_Nested : PySem.W.kitOne K (.ref A.c_NotDecided) (.ref A.c_Nested) = some false
  qt_NotDecided_in_NoScheme : PySem.W.kitOne K (.ref A.c_NotDecided) (.ref A.c_NoScheme) = some false
  qt_NotDecided_in_NoRun : PySem.W.kitOne K (.ref A.c_NotDecided) (.ref A.c_NoRun) = some false
  qt_NotDecided_in_NotRight : PySem.W.kitOne K (.ref A.c_NotDecided) (.ref A.c_NotRight) = some false
  qt_NotDecided_in_NoHands : PySem.W.kitOne K (.ref A.c_NotDecided) (.ref A.c_NoHands) = some false
  qt_NotDecided_in_NoSteps : PySem.W.kitOne K (.ref A.c_NotDecided) (.ref A.c_NoSteps) = some false
  qt_NotDecided_in_NoChange : PySem.W.kitOne K (.ref A.c_NotDecided) (.ref A.c_NoChange) = some false
  qt_NotDecided_in_RingError : PySem.W.kitOne K (.ref A.c_NotDecided) (.ref A.c_RingError) = some true
  qt_NotDecided_in_VE : PySem.W.kitOne K (.ref A.c_NotDecided) (.type "ValueError") = some true
  xm_NotDecided : PySem.W.exmOne K (.ref A.c_NotDecided) (.ref A.c_RingError) = some true
  ec_NotDecided : L2.ExcC K A.c_NotDecided
  qt_NoLag_in_NoForm : PySem.W.kitOne K (.ref A.c_NoLag) (.ref A.c_NoForm) = some false
  qt_NoLag_in_NoCounter : PySem.W.kitOne K (.ref A.c_NoLag) (.ref A.c_NoCounter) = some false
  qt_NoLag_in_NoSize : PySem.W.kitOne K (.ref A.c_NoLag) (.ref A.c_NoSize) = some false
  qt_NoLag_in_NoRing : PySem.W.kitOne K (.ref A.c_NoLag) (.ref A.c_NoRing) = some false
  qt_NoLag_in_Outside : PySem.W.kitOne K (.ref A.c_NoLag) (.ref A.c_Outside) = some false
  qt_NoLag_in_NoSet : PySem.W.kitOne K (.ref A.c_NoLag) (.ref A.c_NoSet) = some false
  qt_NoLag_in_TooLong : PySem.W.kitOne K (.ref A.c_NoLag) (.ref A.c_TooLong) = some false
  qt_NoLag_in_NotDecided : PySem.W.kitOne K (.ref A.c_NoLag) (.ref A.c_NotDecided) = some false
  qt_NoLag_in_NoLag : PySem.W.kitOne K (.ref A.c_NoLag) (.ref A.c_NoLag) = some true
  qt_NoLag_in_NoRow : PySem.W.kitOne K (.ref A.c_NoLag) (.ref A.c_NoRow) = some false
  qt_NoLag_in_NoName : PySem.W.kitOne K (.ref A.c_NoLag) (.ref A.c_NoName) = some false
  qt_NoLag_in_Nested : PySem.W.kitOne K (.ref A.c_NoLag) (.ref A.c_Nested) = some false
  qt_NoLag_in_NoScheme : PySem.W.kitOne K (.ref A.c_NoLag) (.ref A.c_NoScheme) = some false
  qt_NoLag_in_NoRun : PySem.W.kitOne K (.ref A.c_NoLag) (.ref A.c_NoRun) = some false
  qt_NoLag_in_NotRight : PySem.W.kitOne K (.ref A.c_NoLag) (.ref A.c_NotRight) = some false
  qt_NoLag_in_NoHands : PySem.W.kitOne K (.ref A.c_NoLag) (.ref A.c_NoHands) = some false
  qt_NoLag_in_NoSteps : PySem.W.kitOne K (.ref A.c_NoLag) (.ref A.c_NoSteps) = some false
  qt_NoLag_in_NoChange : PySem.W.kitOne K (.ref A.c_NoLag) (.ref A.c_NoChange) = some false
  qt_NoLag_in_RingError : PySem.W.kitOne K (.ref A.c_NoLag) (.ref A.c_RingError) = some true
  qt_NoLag_in_VE : PySem.W.kitOne K (.ref A.c_NoLag) (.type "ValueError") = some true
  xm_NoLag : PySem.W.exmOne K (.ref A.c_NoLag) (.ref A.c_RingError) = some true
  ec_NoLag : L2.ExcC K A.c_NoLag
  qt_NoRow_in_NoForm : PySem.W.kitOne K (.ref A.c_NoRow) (.ref A.c_NoForm) = some false
  qt_NoRow_in_NoCounter : PySem.W.kitOne K (.ref A.c_NoRow) (.ref A.c_NoCounter) = some false
  qt_NoRow_in_NoSize : PySem.W.kitOne K (.ref A.c_NoRow) (.ref A.c_NoSize) = some false
  qt_NoRow_in_NoRing : PySem.W.kitOne K (.ref A.c_NoRow) (.ref A.c_NoRing) = some false
  qt_NoRow_in_Outside : PySem.W.kitOne K (.ref A.c_NoRow) (.ref A.c_Outside) = some false
  qt_NoRow_in_NoSet : PySem.W.kitOne K (.ref A.c_NoRow) (.ref A.c_NoSet) = some false
  qt_NoRow_in_TooLong : PySem.W.kitOne K (.ref A.c_NoRow) (.ref A.c_TooLong) = some false
  qt_NoRow_in_NotDecided : PySem.W.kitOne K (.ref A.c_NoRow) (.ref A.c_NotDecided) = some false
  qt_NoRow_in_NoLag : PySem.W.kitOne K (.ref A.c_NoRow) (.ref A.c_NoLag) = some false
  qt_NoRow_in_NoRow : PySem.W.kitOne K (.ref A.c_NoRow) (.ref A.c_NoRow) = some true
  qt_NoRow_in_NoName : PySem.W.kitOne K (.ref A.c_NoRow) (.ref A.c_NoName) = some false
  qt_NoRow_in_Nested : PySem.W.kitOne K (.ref A.c_NoRow) (.ref A.c_Nested) = some false
  qt_NoRow_in_NoScheme : PySem.W.kitOne K (.ref A.c_NoRow) (.ref A.c_NoScheme) = some false
  qt_NoRow_in_NoRun : PySem.W.kitOne K (.ref A.c_NoRow) (.ref A.c_NoRun) = some false
  qt_NoRow_in_NotRight : PySem.W.kitOne K (.ref A.c_NoRow) (.ref A.c_NotRight) = some false
  qt_NoRow_in_NoHands : PySem.W.kitOne K (.ref A.c_NoRow) (.ref A.c_NoHands) = some false
  qt_NoRow_in_NoSteps : PySem.W.kitOne K (.ref A.c_NoRow) (.ref A.c_NoSteps) = some false
  qt_NoRow_in_NoChange : PySem.W.kitOne K (.ref A.c_NoRow) (.ref A.c_NoChange) = some false
  qt_NoRow_in_RingError : PySem.W.kitOne K (.ref A.c_NoRow) (.ref A.c_RingError) = some true
  qt_NoRow_in_VE : PySem.W.kitOne K (.ref A.c_NoRow) (.type "ValueError") = some true
  xm_NoRow : PySem.W.exmOne K (.ref A.c_NoRow) (.ref A.c_RingError) = some true
  ec_NoRow : L2.ExcC K A.c_NoRow
  qt_NoName_in_NoForm : PySem.W.kitOne K (.ref A.c_NoName) (.ref A.c_NoForm) = some false
  qt_NoName_in_NoCounter : PySem.W.kitOne K (.ref A.c_NoName) (.ref A.c_NoCounter) = some false
  qt_NoName_in_NoSize : PySem.W.kitOne K (.ref A.c_NoName) (.ref A.c_NoSize) = some false
  qt_NoName_in_NoRing : PySem.W.kitOne K (.ref A.c_NoName) (.ref A.c_NoRing) = some false
  qt_NoName_in_Outside : PySem.W.kitOne K (.ref A.c_NoName) (.ref A.c_Outside) = some false
  qt_NoName_in_NoSet : PySem.W.kitOne K (.ref A.c_NoName) (.ref A.c_NoSet) = some false
  qt_NoName_in_TooLong : PySem.W.kitOne K (.ref A.c_NoName) (.ref A.c_TooLong) = some false
  qt_NoName_in_NotDecided : PySem.W.kitOne K (.ref A.c_NoName) (.ref A.c_NotDecided) = some false
  qt_NoName_in_NoLag : PySem.W.kitOne K (.ref A.c_NoName) (.ref A.c_NoLag) = some false
  qt_NoName_in_NoRow : PySem.W.kitOne K (.ref A.c_NoName) (.ref A.c_NoRow) = some false
  qt_NoName_in_NoName : PySem.W.kitOne K (.ref A.c_NoName) (.ref A.c_NoName) = some true
  qt_NoName_in_Nested : PySem.W.kitOne K (.ref A.c_NoName) (.ref A.c_Nested) = some false
  qt_NoName_in_NoScheme : PySem.W.kitOne K (.ref A.c_NoName) (.ref A.c_NoScheme) = some false
  qt_NoName_in_NoRun : PySem.W.kitOne K (.ref A.c_NoName) (.ref A.c_NoRun) = some false
  qt_NoName_in_NotRight : PySem.W.kitOne K (.ref A.c_NoName) (.ref A.c_NotRight) = some false
  qt_NoName_in_NoHands : PySem.W.kitOne K (.ref A.c_NoName) (.ref A.c_NoHands) = some false
  qt_NoName_in_NoSteps : PySem.W.kitOne K (.ref A.c_NoName) (.ref A.c_NoSteps) = some false
  qt_NoName_in_NoChange : PySem.W.kitOne K (.ref A.c_NoName) (.ref A.c_NoChange) = some false
  qt_NoName_in_RingError : PySem.W.kitOne K (.ref A.c_NoName) (.ref A.c_RingError) = some true
  qt_NoName_in_VE : PySem.W.kitOne K (.ref A.c_NoName) (.type "ValueError") = some true
  xm_NoName : PySem.W.exmOne K (.ref A.c_NoName) (.ref A.c_RingError) = some true
  ec_NoName : L2.ExcC K A.c_NoName
  qt_Nested_in_NoForm : PySem.W.kitOne K (.ref A.c_Nested) (.ref A.c_NoForm) = some false
  qt_Nested_in_NoCounter : PySem.W.kitOne K (.ref A.c_Nested) (.ref A.c_NoCounter) = some false
  qt_Nested_in_NoSize : PySem.W.kitOne K (.ref A.c_Nested) (.ref A.c_NoSize) = some false
  qt_Nested_in_NoRing : PySem.W.kitOne K (.ref A.c_Nested) (.ref A.c_NoRing) = some false
  qt_Nested_in_Outside : PySem.W.kitOne K (.ref A.c_Nested) (.ref A.c_Outside) = some false
  qt_Nested_in_NoSet : PySem.W.kitOne K (.ref A.c_Nested) (.ref A.c_NoSet) = some false
  qt_Nested_in_TooLong : PySem.W.kitOne K (.ref A.c_Nested) (.ref A.c_TooLong) = some false
  qt_Nested_in_NotDecided : PySem.W.kitOne K (.ref A.c_Nested) (.ref A.c_NotDecided) = some false
  qt_Nested_in_NoLag : PySem.W.kitOne K (.ref A.c_Nested) (.ref A.c_NoLag) = some false
  qt_Nested_in_NoRow : PySem.W.kitOne K (.ref A.c_Nested) (.ref A.c_NoRow) = some false
  qt_Nested_in_NoName : PySem.W.kitOne K (.ref A.c_Nested) (.ref A.c_NoName) = some false
  qt_Nested_in_Nested : PySem.W.kitOne K (.ref A.c_Nested) (.ref A.c_Nested) = some true
  qt_Nested_in_NoScheme : PySem.W.kitOne K (.ref A.c_Nested) (.ref A.c_NoScheme) = some false
  qt_Nested_in_NoRun : PySem.W.kitOne K (.ref A.c_Nested) (.ref A.c_NoRun) = some false
  qt_Nested_in_NotRight : PySem.W.kitOne K (.ref A.c_Nested) (.ref A.c_NotRight) = some false
  qt_Nested_in_NoHands : PySem.W.kitOne K (.ref A.c_Nested) (.ref A.c_NoHands) = some false
  qt_Nested_in_NoSteps : PySem.W.kitOne K (.ref A.c_Nested) (.ref A.c_NoSteps) = some false
  qt_Nested_in_NoChange : PySem.W.kitOne K (.ref A.c_Nested) (.ref A.c_NoChange) = some false
  qt_Nested_in_RingError : PySem.W.kitOne K (.ref A.c_Nested) (.ref A.c_RingError) = some true
  qt_Nested_in_VE : PySem.W.kitOne K (.ref A.c_Nested) (.type "ValueError") = some true
  xm_Nested : PySem.W.exmOne K (.ref A.c_Nested) (.ref A.c_RingError) = some true
  ec_Nested : L2.ExcC K A.c_Nested
  qt_NoScheme_in_NoForm : PySem.W.kitOne K (.ref A.c_NoScheme) (.ref A.c_NoForm) = some false
  qt_NoScheme_in_NoCounter : PySem.W.kitOne K (.ref A.c_NoScheme) (.ref A.c_NoCounter) = some false
  qt_NoScheme_in_NoSize : PySem.W.kitOne K (.ref A.c_NoScheme) (.ref A.c_NoSize) = some false
  qt_NoScheme_in_NoRing : PySem.W.kitOne K (.ref A.c_NoScheme) (.ref A.c_NoRing) = some false
  qt_NoScheme_in_Outside : PySem.W.kitOne K (.ref A.c_NoScheme) (.ref A.c_Outside) = some false
  qt_NoScheme_in_NoSet : PySem.W.kitOne K (.ref A.c_NoScheme) (.ref A.c_NoSet) = some false
  qt_NoScheme_in_TooLong : PySem.W.kitOne K (.ref A.c_NoScheme) (.ref A.c_TooLong) = some false
  qt_NoScheme_in_NotDecided : PySem.W.kitOne K (.ref A.c_NoScheme) (.ref A.c_NotDecided) = some false
  qt_NoScheme_in_NoLag : PySem.W.kitOne K (.ref A.c_NoScheme) (.ref A.c_NoLag) = some false
  qt_NoScheme_in_NoRow : PySem.W.kitOne K (.ref A.c_NoScheme) (.ref A.c_NoRow) = some false
  qt_NoScheme_in_NoName : PySem.W.kitOne K (.ref A.c_NoScheme) (.ref A.c_NoName) = some false
  qt_NoScheme_in_Nested : PySem.W.kitOne K (.ref A.c_NoScheme) (.ref A.c_Nested) = some false
  qt_NoScheme_in_NoScheme : PySem.W.kitOne K (.ref A.c_NoScheme) (.ref A.c_NoScheme) = some true
  qt_NoScheme_in_NoRun : PySem.W.kitOne K (.ref A.c_NoScheme) (.ref A.c_NoRun) = some false
  qt_NoScheme_in_NotRight : PySem.W.kitOne K (.ref A.c_NoScheme) (.ref A.c_NotRight) = some false
  qt_NoScheme_in_NoHands : PySem.W.kitOne K (.ref A.c_NoScheme) (.ref A.c_NoHands) = some false
  qt_NoScheme_in_NoSteps : PySem.W.kitOne K (.ref A.c_NoScheme) (.ref A.c_NoSteps) = some false
  qt_NoScheme_in_NoChange : PySem.W.kitOne K (.ref A.c_NoScheme) (.ref A.c_NoChange) = some false
  qt_NoScheme_in_RingError : PySem.W.kitOne K (.ref A.c_NoScheme) (.ref A.c_RingError) = some true
  qt_NoScheme_in_VE : PySem.W.kitOne K (.ref A.c_NoScheme) (.type "ValueError") = some true
  xm_NoScheme : PySem.W.exmOne K (.ref A.c_NoScheme) (.ref A.c_RingError) = some true
  ec_NoScheme : L2.ExcC K A.c_NoScheme
  qt_NoRun_in_NoForm : PySem.W.kitOne K (.ref A.c_NoRun) (.ref A.c_NoForm) = some false
  qt_NoRun_in_NoCounter : PySem.W.kitOne K (.ref A.c_NoRun) (.ref A.c_NoCounter) = some false
  qt_NoRun_in_NoSize : PySem.W.kitOne K (.ref A.c_NoRun) (.ref A.c_NoSize) = some false
  qt_NoRun_in_NoRing : PySem.W.kitOne K (.ref A.c_NoRun) (.ref A.c_NoRing) = some false
  qt_NoRun_in_Outside : PySem.W.kitOne K (.ref A.c_NoRun) (.ref A.c_Outside) = some false
  qt_NoRun_in_NoSet : PySem.W.kitOne K (.ref A.c_NoRun) (.ref A.c_NoSet) = some false
  qt_NoRun_in_TooLong : PySem.W.kitOne K (.ref A.c_NoRun) (.ref A.c_TooLong) = some false
  qt_NoRun_in_NotDecided : PySem.W.kitOne K (.ref A.c_NoRun) (.ref A.c_NotDecided) = some false
  qt_NoRun_in_NoLag : PySem.W.kitOne K (.ref A.c_NoRun) (.ref A.c_NoLag) = some false
  qt_NoRun_in_NoRow : PySem.W.kitOne K (.ref A.c_NoRun) (.ref A.c_NoRow) = some false
  qt_NoRun_in_NoName : PySem.W.kitOne K (.ref A.c_NoRun) (.ref A.c_NoName) = some false
  qt_NoRun_in_Nested : PySem.W.kitOne K (.ref A.c_NoRun) (.ref A.c_Nested) = some false
  qt_NoRun_in_NoScheme : PySem.W.kitOne K (.ref A.c_NoRun) (.ref A.c_NoScheme) = some false
  qt_NoRun_in_NoRun : PySem.W.kitOne K (.ref A.c_NoRun) (.ref A.c_NoRun) = some true
  qt_NoRun_in_NotRight : PySem.W.kitOne K (.ref A.c_NoRun) (.ref A.c_NotRight) = some false
  qt_NoRun_in_NoHands : PySem.W.kitOne K (.ref A.c_NoRun) (.ref A.c_NoHands) = some false
  qt_NoRun_in_NoSteps : PySem.W.kitOne K (.ref A.c_NoRun) (.ref A.c_NoSteps) = some false
  qt_NoRun_in_NoChange : PySem.W.kitOne K (.ref A.c_NoRun) (.ref A.c_NoChange) = some false
  qt_NoRun_in_RingError : PySem.W.kitOne K (.ref A.c_NoRun) (.ref A.c_RingError) = some true
  qt_NoRun_in_VE : PySem.W.kitOne K (.ref A.c_NoRun) (.type "ValueError") = some true
  xm_NoRun : PySem.W.exmOne K (.ref A.c_NoRun) (.ref A.c_RingError) = some true
  ec_NoRun : L2.ExcC K A.c_NoRun
  qt_NotRight_in_NoForm : PySem.W.kitOne K (.ref A.c_NotRight) (.ref A.c_NoForm) = some false
  qt_NotRight_in_NoCounter : PySem.W.kitOne K (.ref A.c_NotRight) (.ref A.c_NoCounter) = some false
  qt_NotRight_in_NoSize : PySem.W.kitOne K (.ref A.c_NotRight) (.ref A.c_NoSize) = some false
  qt_NotRight_in_NoRing : PySem.W.kitOne K (.ref A.c_NotRight) (.ref A.c_NoRing) = some false
  qt_NotRight_in_Outside : PySem.W.kitOne K (.ref A.c_NotRight) (.ref A.c_Outside) = some false
  qt_NotRight_in_NoSet : PySem.W.kitOne K (.ref A.c_NotRight) (.ref A.c_NoSet) = some false
  qt_NotRight_in_TooLong : PySem.W.kitOne K (.ref A.c_NotRight) (.ref A.c_TooLong) = some false
  qt_NotRight_in_NotDecided : PySem.W.kitOne K (.ref A.c_NotRight) (.ref A.c_NotDecided) = some false
  qt_NotRight_in_NoLag : PySem.W.kitOne K (.ref A.c_NotRight) (.ref A.c_NoLag) = some false
  qt_NotRight_in_NoRow : PySem.W.kitOne K (.ref A.c_NotRight) (.ref A.c_NoRow) = some false
  qt_NotRight_in_NoName : PySem.W.kitOne K (.ref A.c_NotRight) (.ref A.c_NoName) = some false
  qt_NotRight_in_Nested : PySem.W.kitOne K (.ref A.c_NotRight) (.ref A.c_Nested) = some false
  qt_NotRight_in_NoScheme : PySem.W.kitOne K (.ref A.c_NotRight) (.ref A.c_NoScheme) = some false
  qt_NotRight_in_NoRun : PySem.W.kitOne K (.ref A.c_NotRight) (.ref A.c_NoRun) = some false
  qt_NotRight_in_NotRight : PySem.W.kitOne K (.ref A.c_NotRight) (.ref A.c_NotRight) = some true
  qt_NotRight_in_NoHands : PySem.W.kitOne K (.ref A.c_NotRight) (.ref A.c_NoHands) = some false
  qt_NotRight_in_NoSteps : PySem.W.kitOne K (.ref A.c_NotRight) (.ref A.c_NoSteps) = some false
  qt_NotRight_in_NoChange : PySem.W.kitOne K (.ref A.c_NotRight) (.ref A.c_NoChange) = some false
  qt_NotRight_in_RingError : PySem.W.kitOne K (.ref A.c_NotRight) (.ref A.c_RingError) = some true
  qt_NotRight_in_VE : PySem.W.kitOne K (.ref A.c_NotRight) (.type "ValueError") = some true
  xm_NotRight : PySem.W.exmOne K (.ref A.c_NotRight) (.ref A.c_RingError) = some true
  ec_NotRight : L2.ExcC K A.c_NotRight
  qt_NoHands_in_NoForm : PySem.W.kitOne K (.ref A.c_NoHands) (.ref A.c_NoForm) = some false
  qt_NoHands_in_NoCounter : PySem.W.kitOne K (.ref A.c_NoHands) (.ref A.c_NoCounter) = some false
  qt_NoHands_in_NoSize : PySem.W.kitOne K (.ref A.c_NoHands) (.ref A.c_NoSize) = some false
  qt_NoHands_in_NoRing : PySem.W.kitOne K (.ref A.c_NoHands) (.ref A.c_NoRing) = some false
  qt_NoHands_in_Outside : PySem.W.kitOne K (.ref A.c_NoHands) (.ref A.c_Outside) = some false
  qt_NoHands_in_NoSet : PySem.W.kitOne K (.ref A.c_NoHands) (.ref A.c_NoSet) = some false
  qt_NoHands_in_TooLong : PySem.W.kitOne K (.ref A.c_NoHands) (.ref A.c_TooLong) = some false
  qt_NoHands_in_NotDecided : PySem.W.kitOne K (.ref A.c_NoHands) (.ref A.c_NotDecided) = some false
  qt_NoHands_in_NoLag : PySem.W.kitOne K (.ref A.c_NoHands) (.ref A.c_NoLag) = some false
  qt_NoHands_in_NoRow : PySem.W.kitOne K (.ref A.c_NoHands) (.ref A.c_NoRow) = some false
  qt_NoHands_in_NoName : PySem.W.kitOne K (.ref A.c_NoHands) (.ref A.c_NoName) = some false
  qt_NoHands_in_Nested : PySem.W.kitOne K (.ref A.c_NoHands) (.ref A.c_Nested) = some false
  qt_NoHands_in_NoScheme : PySem.W.kitOne K (.ref A.c_NoHands) (.ref A.c_NoScheme) = some false
  qt_NoHands_in_NoRun : PySem.W.kitOne K (.ref A.c_NoHands) (.ref A.c_NoRun) = some false
  qt_NoHands_in_NotRight : PySem.W.kitOne K (.ref A.c_NoHands) (.ref A.c_NotRight) = some false
  qt_NoHands_in_NoHands : PySem.W.kitOne K (.ref A.c_NoHands) (.ref A.c_NoHands) = some true
  qt_NoHands_in_NoSteps : PySem.W.kitOne K (.ref A.c_NoHands) (.ref A.c_NoSteps) = some false
  qt_NoHands_in_NoChange : PySem.W.kitOne K (.ref A.c_NoHands) (.ref A.c_NoChange) = some false
  qt_NoHands_in_RingError : PySem.W.kitOne K (.ref A.c_NoHands) (.ref A.c_RingError) = some true
  qt_NoHands_in_VE : PySem.W.kitOne K (.ref A.c_NoHands) (.type "ValueError") = some true
  xm_NoHands : PySem.W.exmOne K (.ref A.c_NoHands) (.ref A.c_RingError) = some true
  ec_NoHands : L2.ExcC K A.c_NoHands
  qt_NoSteps_in_NoForm : PySem.W.kitOne K (.ref A.c_NoSteps) (.ref A.c_NoForm) = some false
  qt_NoSteps_in_NoCounter : PySem.W.kitOne K (.ref A.c_NoSteps) (.ref A.c_NoCounter) = some false
  qt_NoSteps_in_NoSize : PySem.W.kitOne K (.ref A.c_NoSteps) (.ref A.c_NoSize) = some false
  qt_NoSteps_in_NoRing : PySem.W.kitOne K (.ref A.c_NoSteps) (.ref A.c_NoRing) = some false
  qt_NoSteps_in_Outside : PySem.W.kitOne K (.ref A.c_NoSteps) (.ref A.c_Outside) = some false
  qt_NoSteps_in_NoSet : PySem.W.kitOne K (.ref A.c_NoSteps) (.ref A.c_NoSet) = some false
  qt_NoSteps_in_TooLong : PySem.W.kitOne K (.ref A.c_NoSteps) (.ref A.c_TooLong) = some false
  qt_NoSteps_in_NotDecided : PySem.W.kitOne K (.ref A.c_NoSteps) (.ref A.c_NotDecided) = some false
  qt_NoSteps_in_NoLag : PySem.W.kitOne K (.ref A.c_NoSteps) (.ref A.c_NoLag) = some false
  qt_NoSteps_in_NoRow : PySem.W.kitOne K (.ref A.c_NoSteps) (.ref A.c_NoRow) = some false
  qt_NoSteps_in_NoName : PySem.W.kitOne K (.ref A.c_NoSteps) (.ref A.c_NoName) = some false
  qt_NoSteps_in_Nested : PySem.W.kitOne K (.ref A.c_NoSteps) (.ref A.c_Nested) = some false
  qt_NoSteps_in_NoScheme : PySem.W.kitOne K (.ref A.c_NoSteps) (.ref A.c_NoScheme) = some false
  qt_NoSteps_in_NoRun : PySem.W.kitOne K (.ref A.c_NoSteps) (.ref A.c_NoRun) = some false
  qt_NoSteps_in_NotRight : PySem.W.kitOne K (.ref A.c_NoSteps) (.ref A.c_NotRight) = some false
  qt_NoSteps_in_NoHands : PySem.W.kitOne K (.ref A.c_NoSteps) (.ref A.c_NoHands) = some false
  qt_NoSteps_in_NoSteps : PySem.W.kitOne K (.ref A.c_NoSteps) (.ref A.c_NoSteps) = some true
  qt_NoSteps_in_NoChange : PySem.W.kitOne K (.ref A.c_NoSteps) (.ref A.c_NoChange) = some false
  qt_NoSteps_in_RingError : PySem.W.kitOne K (.ref A.c_NoSteps) (.ref A.c_RingError) = some true
  qt_NoSteps_in_VE : PySem.W.kitOne K (.ref A.c_NoSteps) (.type "ValueError") = some true
  xm_NoSteps : PySem.W.exmOne K (.ref A.c_NoSteps) (.ref A.c_RingError) = some true
  ec_NoSteps : L2.ExcC K A.c_NoSteps
  qt_NoChange_in_NoForm : PySem.W.kitOne K (.ref A.c_NoChange) (.ref A.c_NoForm) = some false
  qt_NoChange_in_NoCounter : PySem.W.kitOne K (.ref A.c_NoChange) (.ref A.c_NoCounter) = some false
  qt_NoChange_in_NoSize : PySem.W.kitOne K (.ref A.c_NoChange) (.ref A.c_NoSize) = some false
  qt_NoChange_in_NoRing : PySem.W.kitOne K (.ref A.c_NoChange) (.ref A.c_NoRing) = some false
  qt_NoChange_in_Outside : PySem.W.kitOne K (.ref A.c_NoChange) (.ref A.c_Outside) = some false
  qt_NoChange_in_NoSet : PySem.W.kitOne K (.ref A.c_NoChange) (.ref A.c_NoSet) = some false
  qt_NoChange_in_TooLong : PySem.W.kitOne K (.ref A.c_NoChange) (.ref A.c_TooLong) = some false
  qt_NoChange_in_NotDecided : PySem.W.kitOne K (.ref A.c_NoChange) (.ref A.c_NotDecided) = some false
  qt_NoChange_in_NoLag : PySem.W.kitOne K (.ref A.c_NoChange) (.ref A.c_NoLag) = some false
  qt_NoChange_in_NoRow : PySem.W.kitOne K (.ref A.c_NoChange) (.ref A.c_NoRow) = some false
  qt_NoChange_in_NoName : PySem.W.kitOne K (.ref A.c_NoChange) (.ref A.c_NoName) = some false
  qt_NoChange_in_Nested : PySem.W.kitOne K (.ref A.c_NoChange) (.ref A.c_Nested) = some false
  qt_NoChange_in_NoScheme : PySem.W.kitOne K (.ref A.c_NoChange) (.ref A.c_NoScheme) = some false
  qt_NoChange_in_NoRun : PySem.W.kitOne K (.ref A.c_NoChange) (.ref A.c_NoRun) = some false
  qt_NoChange_in_NotRight : PySem.W.kitOne K (.ref A.c_NoChange) (.ref A.c_NotRight) = some false
  qt_NoChange_in_NoHands : PySem.W.kitOne K (.ref A.c_NoChange) (.ref A.c_NoHands) = some false
  qt_NoChange_in_NoSteps : PySem.W.kitOne K (.ref A.c_NoChange) (.ref A.c_NoSteps) = some false
  qt_NoChange_in_NoChange : PySem.W.kitOne K (.ref A.c_NoChange) (.ref A.c_NoChange) = some true
  qt_NoChange_in_RingError : PySem.W.kitOne K (.ref A.c_NoChange) (.ref A.c_RingError) = some true
  qt_NoChange_in_VE : PySem.W.kitOne K (.ref A.c_NoChange) (.type "ValueError") = some true
  xm_NoChange : PySem.W.exmOne K (.ref A.c_NoChange) (.ref A.c_RingError) = some true
  ec_NoChange : L2.ExcC K A.c_NoChange
  ox_NoScheme : L2.OexC K A.c_NoScheme
  oi_NoScheme : PySem.W.findIn K (.ref A.c_NoScheme) "__init__" = some (some (.ref A.f_NoSchemeu__initu_))
  ot_NoScheme : PySem.W.typeIn K (.ref A.f_NoSchemeu__initu_) = some (.type "function")
  on_NoScheme : PySem.W.findIn K (.ref A.c_NoScheme) "part" = some none
  xf_NoScheme : L2.XfC K A.c_NoScheme
  ox_NoRun : L2.OexC K A.c_NoRun
  oi_NoRun : PySem.W.findIn K (.ref A.c_NoRun) "__init__" = some (some (.ref A.f_NoRunu__initu_))
  ot_NoRun : PySem.W.typeIn K (.ref A.f_NoRunu__initu_) = some (.type "function")
  on_NoRun : PySem.W.findIn K (.ref A.c_NoRun) "at" = some none
  xf_NoRun : L2.XfC K A.c_NoRun
  ox_NotRight : L2.OexC K A.c_NotRight
  oi_NotRight : PySem.W.findIn K (.ref A.c_NotRight) "__init__" = some (some (.ref A.f_NotRightu__initu_))
  ot_NotRight : PySem.W.typeIn K (.ref A.f_NotRightu__initu_) = some (.type "function")
  on_NotRight : PySem.W.findIn K (.ref A.c_NotRight) "why" = some none
  xf_NotRight : L2.XfC K A.c_NotRight
  ox_NoHands : L2.OexC K A.c_NoHands
  oi_NoHands : PySem.W.findIn K (.ref A.c_NoHands) "__init__" = some (some (.ref A.f_NoHandsu__initu_))
  ot_NoHands : PySem.W.typeIn K (.ref A.f_NoHandsu__initu_) = some (.type "function")
  on_NoHands : PySem.W.findIn K (.ref A.c_NoHands) "part" = some none
  xf_NoHands : L2.XfC K A.c_NoHands
  ox_NoSteps : L2.OexC K A.c_NoSteps
  oi_NoSteps : PySem.W.findIn K (.ref A.c_NoSteps) "__init__" = some (some (.ref A.f_NoStepsu__initu_))
  ot_NoSteps : PySem.W.typeIn K (.ref A.f_NoStepsu__initu_) = some (.type "function")
  on_NoSteps : PySem.W.findIn K (.ref A.c_NoSteps) "at" = some none
  xf_NoSteps : L2.XfC K A.c_NoSteps
  ox_NoChange : L2.OexC K A.c_NoChange
  oi_NoChange : PySem.W.findIn K (.ref A.c_NoChange) "__init__" = some (some (.ref A.f_NoChangeu__initu_))
  ot_NoChange : PySem.W.typeIn K (.ref A.f_NoChangeu__initu_) = some (.type "function")
  on_NoChange : PySem.W.findIn K (.ref A.c_NoChange) "at" = some none
  xf_NoChange : L2.XfC K A.c_NoChange

theorem SfreeR {H H' : Hp} {b : Nat} (h : H' b = none) (f : L2.Same H H') : H b = none := Sfree f h
local macro_rules | `(tactic| walk_at "nn") => `(tactic| first | ((with_reducible apply SfreeR); (· with_reducible assumption); (· walk_at "frm")) | fail "nn")
theorem SqLR {K : PySem.W.Frag} {H H' : Hp} {a : Addr} {xs : List V} (h : SqL K H a xs) (f : L2.Same H H') : SqL K H' a xs := Same.seq f h
local macro_rules | `(tactic| walk_at "ll") => `(tactic| first | (with_unfolding_all exact Nat.le_of_ble_eq_true rfl) | omega | exact Nat.le_of_lt (L2.small1000 (by simp only [List.length_append, List.length_cons, List.length_nil, List.length_map, List.length_range]; omega)) | (simp only [List.length_append, List.length_cons, List.length_nil, List.length_map, List.length_range]; omega) | fail "ll")
local macro_rules | `(tactic| walk_at "lg") => `(tactic| exact Tf.lg (by omega))
local macro_rules | `(tactic| walk_at "hpl") => `(tactic| first | with_reducible assumption | (exact .of (by walk_at "hp")) | ((with_reducible apply SqLR); (· with_reducible assumption); (· walk_at "frm")) | fail "hpl")
local macro_rules | `(tactic| walk_at "sz") => `(tactic| first | exact L2.small1000 (by (try simp only [List.length_map, List.length_cons, List.length_append, List.length_nil] at *); omega) | exact Nat.le_of_lt (L2.small1000 (by (try simp only [List.length_map, List.length_cons, List.length_append, List.length_nil] at *); omega)))
/-- the classes of errors, in the order of the law -/
def cls1 (A : Adr) : List Addr := [A.c_NoForm, A.c_NoCounter, A.c_NoSize, A.c_NoRing, A.c_Outside, A.c_NoSet, A.c_TooLong, A.c_NotDecided, A.c_NoLag, A.c_NoRow, A.c_NoName, A.c_Nested]
def cls2 (A : Adr) : List Addr := [A.c_NoScheme, A.c_NoRun, A.c_NotRight, A.c_NoHands, A.c_NoSteps, A.c_NoChange]
def clsA (A : Adr) : List Addr := cls1 A ++ cls2 A
/-- errors of these classes, one by one -/
inductive Es (H : Hp) : List V → List Addr → Prop where
  | nil : Es H [] []
  | cons {a D : Addr} {vs : List V} {Ds : List Addr} (h : ExV.IsErr H a D) (r : Es H vs Ds) : Es H (.ref a :: vs) (D :: Ds)
theorem Es.same {H H' : Hp} (S : Same H H') : ∀ {vs Ds}, Es H vs Ds → Es H' vs Ds
  | _, _, .nil => .nil
  | _, _, .cons h r => .cons (h.same S) (r.same S)
theorem Es.app {H : Hp} : ∀ {vs Ds ws Fs}, Es H vs Ds → Es H ws Fs → Es H (vs ++ ws) (Ds ++ Fs)
  | _, _, _, _, .nil, q => q
  | _, _, _, _, .cons h r, q => .cons h (r.app q)
theorem Es.len {H : Hp} : ∀ {vs Ds}, Es H vs Ds → vs.length = Ds.length
  | _, _, .nil => rfl
  | _, _, .cons _ r => congrArg (· + 1) r.len
theorem Es.at {H : Hp} : ∀ {vs Ds} (i : Nat), Es H vs Ds → i < Ds.length → ∃ a D, vs[i]? = some (.ref a) ∧ Ds[i]? = some D ∧ ExV.IsErr H a D
  | _, _, 0, .cons h _, _ => ⟨_, _, rfl, rfl, h⟩
  | _, _, i + 1, .cons _ r, q => r.at i (Nat.lt_of_succ_lt_succ q)
/-- a value with its text -/
def RV (v : V) (r : Str) : Prop := ExV.Rpr v r ∧ PyData.strOk r = true
local macro_rules | `(tactic| walk_at "rpr") => `(tactic| exact And.left (a := ExV.Rpr _ _) (b := PyData.strOk _ = true) (by assumption))
def OkW (x : Str) : Bool := decide ((reprText x).length ≤ 100) && PyData.strOk (reprText x)
theorem rv_word {x : Str} (h : OkW x = true) : RV (.str x) (reprText x) := by
  unfold OkW at h
  simp only [Bool.and_eq_true, decide_eq_true_eq] at h
  exact ⟨.str _ (Nat.le_of_lt (L2.small1000 (by omega))), h.2⟩
theorem rv_int {i : Int} (h0 : 0 ≤ i) (h1 : i < 100) : ∃ r, RV (.int i) r := by
  have z : ∀ j : Fin 100, PyData.strOk (toString (j.val : Int)) = true := by decide +kernel
  obtain ⟨j, rfl⟩ : ∃ j : Nat, i = (j : Int) := ⟨i.toNat, by omega⟩
  exact ⟨_, .int _ (Tf.lg (by omega)), z ⟨j, by omega⟩⟩
theorem rv_non : RV .non "None" := ⟨.non, by decide +kernel⟩
theorem rv_opt {v : V} (h : v = .non ∨ ∃ i : Int, v = .int i ∧ 0 ≤ i ∧ i < 100) : ∃ r, RV v r := by
  rcases h with rfl | ⟨i, rfl, h0, h1⟩
  · exact ⟨_, rv_non⟩
  · exact rv_int h0 h1
theorem at_word {ws : List Str} (o : ws.all OkW = true) {i : Int} (h0 : 0 ≤ i) (h1 : i < (ws.length : Int)) : ∃ x, atI (ws.map V.str) i = some (.str x) ∧ RV (.str x) (reprText x) := by
  obtain ⟨j, rfl⟩ : ∃ j : Nat, i = (j : Int) := ⟨i.toNat, by omega⟩
  have hj : j < ws.length := by omega
  exact ⟨ws[j], atI_nat (by rw [List.getElem?_map, List.getElem?_eq_getElem hj]; rfl), rv_word (List.all_eq_true.mp o _ (List.getElem_mem hj))⟩
def wsP : List Str := ["wrap", "slot", "empty", "full", "when", "part", "text", "scheme"]
def wsW : List Str := ["nothing", "shut", "outside", "empty", "slot"]
def wsH : List Str := ["writing", "reading", "looking", "telling", "part", "many", "tell", "test", "full"]
theorem ok_P : wsP.all OkW = true := by decide +kernel
theorem ok_W : wsW.all OkW = true := by decide +kernel
theorem ok_H : wsH.all OkW = true := by decide +kernel
/-- the flags of the j-th error -/
def flagsL (j : Nat) : List Bool := [decide (((0 : Nat) : Int) = (j : Int)), decide (((1 : Nat) : Int) = (j : Int)), decide (((2 : Nat) : Int) = (j : Int)), decide (((3 : Nat) : Int) = (j : Int)), decide (((4 : Nat) : Int) = (j : Int)), decide (((5 : Nat) : Int) = (j : Int)), decide (((6 : Nat) : Int) = (j : Int)), decide (((7 : Nat) : Int) = (j : Int)), decide (((8 : Nat) : Int) = (j : Int)), decide (((9 : Nat) : Int) = (j : Int)), decide (((10 : Nat) : Int) = (j : Int)), decide (((11 : Nat) : Int) = (j : Int)), decide (((12 : Nat) : Int) = (j : Int)), decide (((13 : Nat) : Int) = (j : Int)), decide (((14 : Nat) : Int) = (j : Int)), decide (((15 : Nat) : Int) = (j : Int)), decide (((16 : Nat) : Int) = (j : Int)), decide (((17 : Nat) : Int) = (j : Int)), true, true]
theorem range18 (j : Nat) : ((List.range 18).map fun (i : Nat) => decide ((i : Int) = (j : Int))) ++ [true, true] = flagsL j := rfl
theorem kits {w : World} {K : PySem.W.Frag} {mg : Str → Option Value} {A : Adr} (T : Txt w K mg A) {j : Nat} {D : Addr} (h : (clsA A)[j]? = some D) : ExcC K D ∧ PySem.W.kitOne K (.ref D) (.ref A.c_RingError) = some true ∧ PySem.W.kitOne K (.ref D) (.type "ValueError") = some true ∧ PySem.W.kitOne K (.ref D) (.ref A.c_NoForm) = some (decide (((0 : Nat) : Int) = (j : Int))) ∧ PySem.W.kitOne K (.ref D) (.ref A.c_NoCounter) = some (decide (((1 : Nat) : Int) = (j : Int))) ∧ PySem.W.kitOne K (.ref D) (.ref A.c_NoSize) = some (decide (((2 : Nat) : Int) = (j : Int))) ∧ PySem.W.kitOne K (.ref D) (.ref A.c_NoRing) = some (decide (((3 : Nat) : Int) = (j : Int))) ∧ PySem.W.kitOne K (.ref D) (.ref A.c_Outside) = some (decide (((4 : Nat) : Int) = (j : Int))) ∧ PySem.W.kitOne K (.ref D) (.ref A.c_NoSet) = some (decide (((5 : Nat) : Int) = (j : Int))) ∧ PySem.W.kitOne K (.ref D) (.ref A.c_TooLong) = some (decide (((6 : Nat) : Int) = (j : Int))) ∧ PySem.W.kitOne K (.ref D) (.ref A.c_NotDecided) = some (decide (((7 : Nat) : Int) = (j : Int))) ∧ PySem.W.kitOne K (.ref D) (.ref A.c_NoLag) = some (decide (((8 : Nat) : Int) = (j : Int))) ∧ PySem.W.kitOne K (.ref D) (.ref A.c_NoRow) = some (decide (((9 : Nat) : Int) = (j : Int))) ∧ PySem.W.kitOne K (.ref D) (.ref A.c_NoName) = some (decide (((10 : Nat) : Int) = (j : Int))) ∧ PySem.W.kitOne K (.ref D) (.ref A.c_Nested) = some (decide (((11 : Nat) : Int) = (j : Int))) ∧ PySem.W.kitOne K (.ref D) (.ref A.c_NoScheme) = some (decide (((12 : Nat) : Int) = (j : Int))) ∧ PySem.W.kitOne K (.ref D) (.ref A.c_NoRun) = some (decide (((13 : Nat) : Int) = (j : Int))) ∧ PySem.W.kitOne K (.ref D) (.ref A.c_NotRight) = some (decide (((14 : Nat) : Int) = (j : Int))) ∧ PySem.W.kitOne K (.ref D) (.ref A.c_NoHands) = some (decide (((15 : Nat) : Int) = (j : Int))) ∧ PySem.W.kitOne K (.ref D) (.ref A.c_NoSteps) = some (decide (((16 : Nat) : Int) = (j : Int))) ∧ PySem.W.kitOne K (.ref D) (.ref A.c_NoChange) = some (decide (((17 : Nat) : Int) = (j : Int))) := by
  match j, h with
  | 0, h => cases h; exact ⟨T.ec_NoForm, T.qt_NoForm_in_RingError, T.qt_NoForm_in_VE, T.qt_NoForm_in_NoForm, T.qt_NoForm_in_NoCounter, T.qt_NoForm_in_NoSize, T.qt_NoForm_in_NoRing, T.qt_NoForm_in_Outside, T.qt_NoForm_in_NoSet, T.qt_NoForm_in_TooLong, T.qt_NoForm_in_NotDecided, T.qt_NoForm_in_NoLag, T.qt_NoForm_in_NoRow, T.qt_NoForm_in_NoName, T.qt_NoForm_in_Nested, T.qt_NoForm_in_NoScheme, T.qt_NoForm_in_NoRun, T.qt_NoForm_in_NotRight, T.qt_NoForm_in_NoHands, T.qt_NoForm_in_NoSteps, T.qt_NoForm_in_NoChange⟩
  | 1, h => cases h; exact ⟨T.ec_NoCounter, T.qt_NoCounter_in_RingError, T.qt_NoCounter_in_VE, T.qt_NoCounter_in_NoForm, T.qt_NoCounter_in_NoCounter, T.qt_NoCounter_in_NoSize, T.qt_NoCounter_in_NoRing, T.qt_NoCounter_in_Outside, T.qt_NoCounter_in_NoSet, T.qt_NoCounter_in_TooLong, T.qt_NoCounter_in_NotDecided, T.qt_NoCounter_in_NoLag, T.qt_NoCounter_in_NoRow, T.qt_NoCounter_in_NoName, T.qt_NoCounter_in_Nested, T.qt_NoCounter_in_NoScheme, T.qt_NoCounter_in_NoRun, T.qt_NoCounter_in_NotRight, T.qt_NoCounter_in_NoHands, T.qt_NoCounter_in_NoSteps, T.qt_NoCounter_in_NoChange⟩
  | 2, h => cases h; exact ⟨T.ec_NoSize, T.qt_NoSize_in_RingError, T.qt_NoSize_in_VE, T.qt_NoSize_in_NoForm, T.qt_NoSize_in_NoCounter, T.qt_NoSize_in_NoSize, T.qt_NoSize_in_NoRing, T.qt_NoSize_in_Outside, T.qt_NoSize_in_NoSet, T.qt_NoSize_in_TooLong, T.qt_NoSize_in_NotDecided, T.qt_NoSize_in_NoLag, T.qt_NoSize_in_NoRow, T.qt_NoSize_in_NoName, T.qt_NoSize_in_Nested, T.qt_NoSize_in_NoScheme, T.qt_NoSize_in_NoRun, T.qt_NoSize_in_NotRight, T.qt_NoSize_in_NoHands, T.qt_NoSize_in_NoSteps, T.qt_NoSize_in_NoChange⟩
  | 3, h => cases h; exact ⟨T.ec_NoRing, T.qt_NoRing_in_RingError, T.qt_NoRing_in_VE, T.qt_NoRing_in_NoForm, T.qt_NoRing_in_NoCounter, T.qt_NoRing_in_NoSize, T.qt_NoRing_in_NoRing, T.qt_NoRing_in_Outside, T.qt_NoRing_in_NoSet, T.qt_NoRing_in_TooLong, T.qt_NoRing_in_NotDecided, T.qt_NoRing_in_NoLag, T.qt_NoRing_in_NoRow, T.qt_NoRing_in_NoName, T.qt_NoRing_in_Nested, T.qt_NoRing_in_NoScheme, T.qt_NoRing_in_NoRun, T.qt_NoRing_in_NotRight, T.qt_NoRing_in_NoHands, T.qt_NoRing_in_NoSteps, T.qt_NoRing_in_NoChange⟩
  | 4, h => cases h; exact ⟨T.ec_Outside, T.qt_Outside_in_RingError, T.qt_Outside_in_VE, T.qt_Outside_in_NoForm, T.qt_Outside_in_NoCounter, T.qt_Outside_in_NoSize, T.qt_Outside_in_NoRing, T.qt_Outside_in_Outside, T.qt_Outside_in_NoSet, T.qt_Outside_in_TooLong, T.qt_Outside_in_NotDecided, T.qt_Outside_in_NoLag, T.qt_Outside_in_NoRow, T.qt_Outside_in_NoName, T.qt_Outside_in_Nested, T.qt_Outside_in_NoScheme, T.qt_Outside_in_NoRun, T.qt_Outside_in_NotRight, T.qt_Outside_in_NoHands, T.qt_Outside_in_NoSteps, T.qt_Outside_in_NoChange⟩
  | 5, h => cases h; exact ⟨T.ec_NoSet, T.qt_NoSet_in_RingError, T.qt_NoSet_in_VE, T.qt_NoSet_in_NoForm, T.qt_NoSet_in_NoCounter, T.qt_NoSet_in_NoSize, T.qt_NoSet_in_NoRing, T.qt_NoSet_in_Outside, T.qt_NoSet_in_NoSet, T.qt_NoSet_in_TooLong, T.qt_NoSet_in_NotDecided, T.qt_NoSet_in_NoLag, T.qt_NoSet_in_NoRow, T.qt_NoSet_in_NoName, T.qt_NoSet_in_Nested, T.qt_NoSet_in_NoScheme, T.qt_NoSet_in_NoRun, T.qt_NoSet_in_NotRight, T.qt_NoSet_in_NoHands, T.qt_NoSet_in_NoSteps, T.qt_NoSet_in_NoChange⟩
  | 6, h => cases h; exact ⟨T.ec_TooLong, T.qt_TooLong_in_RingError, T.qt_TooLong_in_VE, T.qt_TooLong_in_NoForm, T.qt_TooLong_in_NoCounter, T.qt_TooLong_in_NoSize, T.qt_TooLong_in_NoRing, T.qt_TooLong_in_Outside, T.qt_TooLong_in_NoSet, T.qt_TooLong_in_TooLong, T.qt_TooLong_in_NotDecided, T.qt_TooLong_in_NoLag, T.qt_TooLong_in_NoRow, T.qt_TooLong_in_NoName, T.qt_TooLong_in_Nested, T.qt_TooLong_in_NoScheme, T.qt_TooLong_in_NoRun, T.qt_TooLong_in_NotRight, T.qt_TooLong_in_NoHands, T.qt_TooLong_in_NoSteps, T.qt_TooLong_in_NoChange⟩
  | 7, h => cases h; exact ⟨T.ec_NotDecided, T.qt_NotDecided_in_RingError, T.qt_NotDecided_in_VE, T.qt_NotDecided_in_NoForm, T.qt_NotDecided_in_NoCounter, T.qt_NotDecided_in_NoSize, T.qt_NotDecided_in_NoRing, T.qt_NotDecided_in_Outside, T.qt_NotDecided_in_NoSet, T.qt_NotDecided_in_TooLong, T.qt_NotDecided_in_NotDecided, T.qt_NotDecided_in_NoLag, T.qt_NotDecided_in_NoRow, T.qt_NotDecided_in_NoName, T.qt_NotDecided_in_Nested, T.qt_NotDecided_in_NoScheme, T.qt_NotDecided_in_NoRun, T.qt_NotDecided_in_NotRight, T.qt_NotDecided_in_NoHands, T.qt_NotDecided_in_NoSteps, T.qt_NotDecided_in_NoChange⟩
  | 8, h => cases h; exact ⟨T.ec_NoLag, T.qt_NoLag_in_RingError, T.qt_NoLag_in_VE, T.qt_NoLag_in_NoForm, T.qt_NoLag_in_NoCounter, T.qt_NoLag_in_NoSize, T.qt_NoLag_in_NoRing, T.qt_NoLag_in_Outside, T.qt_NoLag_in_NoSet, T.qt_NoLag_in_TooLong, T.qt_NoLag_in_NotDecided, T.qt_NoLag_in_NoLag, T.qt_NoLag_in_NoRow, T.qt_NoLag_in_NoName, T.qt_NoLag_in_Nested, T.qt_NoLag_in_NoScheme, T.qt_NoLag_in_NoRun, T.qt_NoLag_in_NotRight, T.qt_NoLag_in_NoHands, T.qt_NoLag_in_NoSteps, T.qt_NoLag_in_NoChange⟩
  | 9, h => cases h; exact ⟨T.ec_NoRow, T.qt_NoRow_in_RingError, T.qt_NoRow_in_VE, T.qt_NoRow_in_NoForm, T.qt_NoRow_in_NoCounter, T.qt_NoRow_in_NoSize, T.qt_NoRow_in_NoRing, T.qt_NoRow_in_Outside, T.qt_NoRow_in_NoSet, T.qt_NoRow_in_TooLong, T.qt_NoRow_in_NotDecided, T.qt_NoRow_in_NoLag, T.qt_NoRow_in_NoRow, T.qt_NoRow_in_NoName, T.qt_NoRow_in_Nested, T.qt_NoRow_in_NoScheme, T.qt_NoRow_in_NoRun, T.qt_NoRow_in_NotRight, T.qt_NoRow_in_NoHands, T.qt_NoRow_in_NoSteps, T.qt_NoRow_in_NoChange⟩
  | 10, h => cases h; exact ⟨T.ec_NoName, T.qt_NoName_in_RingError, T.qt_NoName_in_VE, T.qt_NoName_in_NoForm, T.qt_NoName_in_NoCounter, T.qt_NoName_in_NoSize, T.qt_NoName_in_NoRing, T.qt_NoName_in_Outside, T.qt_NoName_in_NoSet, T.qt_NoName_in_TooLong, T.qt_NoName_in_NotDecided, T.qt_NoName_in_NoLag, T.qt_NoName_in_NoRow, T.qt_NoName_in_NoName, T.qt_NoName_in_Nested, T.qt_NoName_in_NoScheme, T.qt_NoName_in_NoRun, T.qt_NoName_in_NotRight, T.qt_NoName_in_NoHands, T.qt_NoName_in_NoSteps, T.qt_NoName_in_NoChange⟩
  | 11, h => cases h; exact ⟨T.ec_Nested, T.qt_Nested_in_RingError, T.qt_Nested_in_VE, T.qt_Nested_in_NoForm, T.qt_Nested_in_NoCounter, T.qt_Nested_in_NoSize, T.qt_Nested_in_NoRing, T.qt_Nested_in_Outside, T.qt_Nested_in_NoSet, T.qt_Nested_in_TooLong, T.qt_Nested_in_NotDecided, T.qt_Nested_in_NoLag, T.qt_Nested_in_NoRow, T.qt_Nested_in_NoName, T.qt_Nested_in_Nested, T.qt_Nested_in_NoScheme, T.qt_Nested_in_NoRun, T.qt_Nested_in_NotRight, T.qt_Nested_in_NoHands, T.qt_Nested_in_NoSteps, T.qt_Nested_in_NoChange⟩
  | 12, h => cases h; exact ⟨T.ec_NoScheme, T.qt_NoScheme_in_RingError, T.qt_NoScheme_in_VE, T.qt_NoScheme_in_NoForm, T.qt_NoScheme_in_NoCounter, T.qt_NoScheme_in_NoSize, T.qt_NoScheme_in_NoRing, T.qt_NoScheme_in_Outside, T.qt_NoScheme_in_NoSet, T.qt_NoScheme_in_TooLong, T.qt_NoScheme_in_NotDecided, T.qt_NoScheme_in_NoLag, T.qt_NoScheme_in_NoRow, T.qt_NoScheme_in_NoName, T.qt_NoScheme_in_Nested, T.qt_NoScheme_in_NoScheme, T.qt_NoScheme_in_NoRun, T.qt_NoScheme_in_NotRight, T.qt_NoScheme_in_NoHands, T.qt_NoScheme_in_NoSteps, T.qt_NoScheme_in_NoChange⟩
  | 13, h => cases h; exact ⟨T.ec_NoRun, T.qt_NoRun_in_RingError, T.qt_NoRun_in_VE, T.qt_NoRun_in_NoForm, T.qt_NoRun_in_NoCounter, T.qt_NoRun_in_NoSize, T.qt_NoRun_in_NoRing, T.qt_NoRun_in_Outside, T.qt_NoRun_in_NoSet, T.qt_NoRun_in_TooLong, T.qt_NoRun_in_NotDecided, T.qt_NoRun_in_NoLag, T.qt_NoRun_in_NoRow, T.qt_NoRun_in_NoName, T.qt_NoRun_in_Nested, T.qt_NoRun_in_NoScheme, T.qt_NoRun_in_NoRun, T.qt_NoRun_in_NotRight, T.qt_NoRun_in_NoHands, T.qt_NoRun_in_NoSteps, T.qt_NoRun_in_NoChange⟩
  | 14, h => cases h; exact ⟨T.ec_NotRight, T.qt_NotRight_in_RingError, T.qt_NotRight_in_VE, T.qt_NotRight_in_NoForm, T.qt_NotRight_in_NoCounter, T.qt_NotRight_in_NoSize, T.qt_NotRight_in_NoRing, T.qt_NotRight_in_Outside, T.qt_NotRight_in_NoSet, T.qt_NotRight_in_TooLong, T.qt_NotRight_in_NotDecided, T.qt_NotRight_in_NoLag, T.qt_NotRight_in_NoRow, T.qt_NotRight_in_NoName, T.qt_NotRight_in_Nested, T.qt_NotRight_in_NoScheme, T.qt_NotRight_in_NoRun, T.qt_NotRight_in_NotRight, T.qt_NotRight_in_NoHands, T.qt_NotRight_in_NoSteps, T.qt_NotRight_in_NoChange⟩
  | 15, h => cases h; exact ⟨T.ec_NoHands, T.qt_NoHands_in_RingError, T.qt_NoHands_in_VE, T.qt_NoHands_in_NoForm, T.qt_NoHands_in_NoCounter, T.qt_NoHands_in_NoSize, T.qt_NoHands_in_NoRing, T.qt_NoHands_in_Outside, T.qt_NoHands_in_NoSet, T.qt_NoHands_in_TooLong, T.qt_NoHands_in_NotDecided, T.qt_NoHands_in_NoLag, T.qt_NoHands_in_NoRow, T.qt_NoHands_in_NoName, T.qt_NoHands_in_Nested, T.qt_NoHands_in_NoScheme, T.qt_NoHands_in_NoRun, T.qt_NoHands_in_NotRight, T.qt_NoHands_in_NoHands, T.qt_NoHands_in_NoSteps, T.qt_NoHands_in_NoChange⟩
  | 16, h => cases h; exact ⟨T.ec_NoSteps, T.qt_NoSteps_in_RingError, T.qt_NoSteps_in_VE, T.qt_NoSteps_in_NoForm, T.qt_NoSteps_in_NoCounter, T.qt_NoSteps_in_NoSize, T.qt_NoSteps_in_NoRing, T.qt_NoSteps_in_Outside, T.qt_NoSteps_in_NoSet, T.qt_NoSteps_in_TooLong, T.qt_NoSteps_in_NotDecided, T.qt_NoSteps_in_NoLag, T.qt_NoSteps_in_NoRow, T.qt_NoSteps_in_NoName, T.qt_NoSteps_in_Nested, T.qt_NoSteps_in_NoScheme, T.qt_NoSteps_in_NoRun, T.qt_NoSteps_in_NotRight, T.qt_NoSteps_in_NoHands, T.qt_NoSteps_in_NoSteps, T.qt_NoSteps_in_NoChange⟩
  | 17, h => cases h; exact ⟨T.ec_NoChange, T.qt_NoChange_in_RingError, T.qt_NoChange_in_VE, T.qt_NoChange_in_NoForm, T.qt_NoChange_in_NoCounter, T.qt_NoChange_in_NoSize, T.qt_NoChange_in_NoRing, T.qt_NoChange_in_Outside, T.qt_NoChange_in_NoSet, T.qt_NoChange_in_TooLong, T.qt_NoChange_in_NotDecided, T.qt_NoChange_in_NoLag, T.qt_NoChange_in_NoRow, T.qt_NoChange_in_NoName, T.qt_NoChange_in_Nested, T.qt_NoChange_in_NoScheme, T.qt_NoChange_in_NoRun, T.qt_NoChange_in_NotRight, T.qt_NoChange_in_NoHands, T.qt_NoChange_in_NoSteps, T.qt_NoChange_in_NoChange⟩
  | k + 18, h => cases h

section
variable {P : Program} {w : World} {K : PySem.W.Frag} {mg : Str → Option Value} {base : Heap} {A : Adr}
/-! NoScheme.__init__ -/
theorem sc_NoSchemeu__initu_ : FnScope ["self", "part"] ["self", "part"] (defScope s_NoSchemeu__initu_) := ⟨rfl, rfl, rfl, by decide +kernel, rfl, by decide +kernel, by decide +kernel⟩
abbrev sp_NoSchemeu__initu_ (K : PySem.W.Frag) (A : Adr) : Sp := fun vs H Q _ => ∃ (a : Addr) (v : V), vs = [.ref a, v] ∧ H a = some (exo a A.c_NoScheme none) ∧ ∀ (d : Addr) (H' : Hp), Frm a H H' → H' a = some (exo a A.c_NoScheme (some d)) → H' d = some (exd d [("part", v)]) → Q .non H'
theorem ok_NoSchemeu__initu_ (T : Txt w K mg A) : FnOk P w K mg base CX0 1 A.f_NoSchemeu__initu_ A.d_NoSchemeu__initu_ ["self", "part"] (sp_NoSchemeu__initu_ K A) := by
  refine T.F_NoSchemeu__initu_.ok sc_NoSchemeu__initu_ (fun vs H Q E h => ?_) (fun cdv Ar outer s H vs Q E hr h => ?_)
  · obtain ⟨a, v, rfl, ha, k⟩ := h
    rfl
  · obtain ⟨a, v, rfl, ha, k⟩ := h
    have hu := hu_of hr
    have t_xm_NoForm := T.xm_NoForm
    have t_xm_NoCounter := T.xm_NoCounter
    have t_xm_NoSize := T.xm_NoSize
    have t_xm_NoRing := T.xm_NoRing
    have t_xm_Outside := T.xm_Outside
    have t_xm_NoSet := T.xm_NoSet
    have t_xm_TooLong := T.xm_TooLong
    have t_xm_NotDecided := T.xm_NotDecided
    have t_xm_NoLag := T.xm_NoLag
    have t_xm_NoRow := T.xm_NoRow
    have t_xm_NoName := T.xm_NoName
    have t_xm_Nested := T.xm_Nested
    have t_xm_NoScheme := T.xm_NoScheme
    have t_xm_NoRun := T.xm_NoRun
    have t_xm_NotRight := T.xm_NotRight
    have t_xm_NoHands := T.xm_NoHands
    have t_xm_NoSteps := T.xm_NoSteps
    have t_xm_NoChange := T.xm_NoChange
    refine ⟨_, (pss_one (ps_ost (pv 0) (pv 1))), ?_⟩
    try dsimp only [L2.cxOf, L2.Cx.nox, L2.Cx.wish]
    with_reducible refine Rd.ost (Rd.var (by walk_at "vr") (Rd.var (by walk_at "vr") ?_))
    refine ⟨_, _, rfl, T.ox_NoScheme, T.on_NoScheme, .inl ⟨(by walk_at "hp"), fun d91 nd91 ne91 => ?_⟩⟩
    exact k _ _ (by walk_at "frm") L2.upd_same (by walk_at "hp")
/-! NoRun.__init__ -/
theorem sc_NoRunu__initu_ : FnScope ["self", "at"] ["self", "at"] (defScope s_NoRunu__initu_) := ⟨rfl, rfl, rfl, by decide +kernel, rfl, by decide +kernel, by decide +kernel⟩
abbrev sp_NoRunu__initu_ (K : PySem.W.Frag) (A : Adr) : Sp := fun vs H Q _ => ∃ (a : Addr) (v : V), vs = [.ref a, v] ∧ H a = some (exo a A.c_NoRun none) ∧ ∀ (d : Addr) (H' : Hp), Frm a H H' → H' a = some (exo a A.c_NoRun (some d)) → H' d = some (exd d [("at", v)]) → Q .non H'
theorem ok_NoRunu__initu_ (T : Txt w K mg A) : FnOk P w K mg base CX0 1 A.f_NoRunu__initu_ A.d_NoRunu__initu_ ["self", "at"] (sp_NoRunu__initu_ K A) := by
  refine T.F_NoRunu__initu_.ok sc_NoRunu__initu_ (fun vs H Q E h => ?_) (fun cdv Ar outer s H vs Q E hr h => ?_)
  · obtain ⟨a, v, rfl, ha, k⟩ := h
    rfl
  · obtain ⟨a, v, rfl, ha, k⟩ := h
    have hu := hu_of hr
    have t_xm_NoForm := T.xm_NoForm
    have t_xm_NoCounter := T.xm_NoCounter
    have t_xm_NoSize := T.xm_NoSize
    have t_xm_NoRing := T.xm_NoRing
    have t_xm_Outside := T.xm_Outside
    have t_xm_NoSet := T.xm_NoSet
    have t_xm_TooLong := T.xm_TooLong
    have t_xm_NotDecided := T.xm_NotDecided
    have t_xm_NoLag := T.xm_NoLag
    have t_xm_NoRow := T.xm_NoRow
    have t_xm_NoName := T.xm_NoName
    have t_xm_Nested := T.xm_Nested
    have t_xm_NoScheme := T.xm_NoScheme
    have t_xm_NoRun := T.xm_NoRun
    have t_xm_NotRight := T.xm_NotRight
    have t_xm_NoHands := T.xm_NoHands
    have t_xm_NoSteps := T.xm_NoSteps
    have t_xm_NoChange := T.xm_NoChange
    refine ⟨_, (pss_one (ps_ost (pv 0) (pv 1))), ?_⟩
    try dsimp only [L2.cxOf, L2.Cx.nox, L2.Cx.wish]
    with_reducible refine Rd.ost (Rd.var (by walk_at "vr") (Rd.var (by walk_at "vr") ?_))
    refine ⟨_, _, rfl, T.ox_NoRun, T.on_NoRun, .inl ⟨(by walk_at "hp"), fun d91 nd91 ne91 => ?_⟩⟩
    exact k _ _ (by walk_at "frm") L2.upd_same (by walk_at "hp")
/-! NotRight.__init__ -/
theorem sc_NotRightu__initu_ : FnScope ["self", "why"] ["self", "why"] (defScope s_NotRightu__initu_) := ⟨rfl, rfl, rfl, by decide +kernel, rfl, by decide +kernel, by decide +kernel⟩
abbrev sp_NotRightu__initu_ (K : PySem.W.Frag) (A : Adr) : Sp := fun vs H Q _ => ∃ (a : Addr) (v : V), vs = [.ref a, v] ∧ H a = some (exo a A.c_NotRight none) ∧ ∀ (d : Addr) (H' : Hp), Frm a H H' → H' a = some (exo a A.c_NotRight (some d)) → H' d = some (exd d [("why", v)]) → Q .non H'
theorem ok_NotRightu__initu_ (T : Txt w K mg A) : FnOk P w K mg base CX0 1 A.f_NotRightu__initu_ A.d_NotRightu__initu_ ["self", "why"] (sp_NotRightu__initu_ K A) := by
  refine T.F_NotRightu__initu_.ok sc_NotRightu__initu_ (fun vs H Q E h => ?_) (fun cdv Ar outer s H vs Q E hr h => ?_)
  · obtain ⟨a, v, rfl, ha, k⟩ := h
    rfl
  · obtain ⟨a, v, rfl, ha, k⟩ := h
    have hu := hu_of hr
    have t_xm_NoForm := T.xm_NoForm
    have t_xm_NoCounter := T.xm_NoCounter
    have t_xm_NoSize := T.xm_NoSize
    have t_xm_NoRing := T.xm_NoRing
    have t_xm_Outside := T.xm_Outside
    have t_xm_NoSet := T.xm_NoSet
    have t_xm_TooLong := T.xm_TooLong
    have t_xm_NotDecided := T.xm_NotDecided
    have t_xm_NoLag := T.xm_NoLag
    have t_xm_NoRow := T.xm_NoRow
    have t_xm_NoName := T.xm_NoName
    have t_xm_Nested := T.xm_Nested
    have t_xm_NoScheme := T.xm_NoScheme
    have t_xm_NoRun := T.xm_NoRun
    have t_xm_NotRight := T.xm_NotRight
    have t_xm_NoHands := T.xm_NoHands
    have t_xm_NoSteps := T.xm_NoSteps
    have t_xm_NoChange := T.xm_NoChange
    refine ⟨_, (pss_one (ps_ost (pv 0) (pv 1))), ?_⟩
    try dsimp only [L2.cxOf, L2.Cx.nox, L2.Cx.wish]
    with_reducible refine Rd.ost (Rd.var (by walk_at "vr") (Rd.var (by walk_at "vr") ?_))
    refine ⟨_, _, rfl, T.ox_NotRight, T.on_NotRight, .inl ⟨(by walk_at "hp"), fun d91 nd91 ne91 => ?_⟩⟩
    exact k _ _ (by walk_at "frm") L2.upd_same (by walk_at "hp")
/-! NoHands.__init__ -/
theorem sc_NoHandsu__initu_ : FnScope ["self", "part"] ["self", "part"] (defScope s_NoHandsu__initu_) := ⟨rfl, rfl, rfl, by decide +kernel, rfl, by decide +kernel, by decide +kernel⟩
abbrev sp_NoHandsu__initu_ (K : PySem.W.Frag) (A : Adr) : Sp := fun vs H Q _ => ∃ (a : Addr) (v : V), vs = [.ref a, v] ∧ H a = some (exo a A.c_NoHands none) ∧ ∀ (d : Addr) (H' : Hp), Frm a H H' → H' a = some (exo a A.c_NoHands (some d)) → H' d = some (exd d [("part", v)]) → Q .non H'
theorem ok_NoHandsu__initu_ (T : Txt w K mg A) : FnOk P w K mg base CX0 1 A.f_NoHandsu__initu_ A.d_NoHandsu__initu_ ["self", "part"] (sp_NoHandsu__initu_ K A) := by
  refine T.F_NoHandsu__initu_.ok sc_NoHandsu__initu_ (fun vs H Q E h => ?_) (fun cdv Ar outer s H vs Q E hr h => ?_)
  · obtain ⟨a, v, rfl, ha, k⟩ := h
    rfl
  · obtain ⟨a, v, rfl, ha, k⟩ := h
    have hu := hu_of hr
    have t_xm_NoForm := T.xm_NoForm
    have t_xm_NoCounter := T.xm_NoCounter
    have t_xm_NoSize := T.xm_NoSize
    have t_xm_NoRing := T.xm_NoRing
    have t_xm_Outside := T.xm_Outside
    have t_xm_NoSet := T.xm_NoSet
    have t_xm_TooLong := T.xm_TooLong
    have t_xm_NotDecided := T.xm_NotDecided
    have t_xm_NoLag := T.xm_NoLag
    have t_xm_NoRow := T.xm_NoRow
    have t_xm_NoName := T.xm_NoName
    have t_xm_Nested := T.xm_Nested
    have t_xm_NoScheme := T.xm_NoScheme
    have t_xm_NoRun := T.xm_NoRun
    have t_xm_NotRight := T.xm_NotRight
    have t_xm_NoHands := T.xm_NoHands
    have t_xm_NoSteps := T.xm_NoSteps
    have t_xm_NoChange := T.xm_NoChange
    refine ⟨_, (pss_one (ps_ost (pv 0) (pv 1))), ?_⟩
    try dsimp only [L2.cxOf, L2.Cx.nox, L2.Cx.wish]
    with_reducible refine Rd.ost (Rd.var (by walk_at "vr") (Rd.var (by walk_at "vr") ?_))
    refine ⟨_, _, rfl, T.ox_NoHands, T.on_NoHands, .inl ⟨(by walk_at "hp"), fun d91 nd91 ne91 => ?_⟩⟩
    exact k _ _ (by walk_at "frm") L2.upd_same (by walk_at "hp")
/-! NoSteps.__init__ -/
theorem sc_NoStepsu__initu_ : FnScope ["self", "at"] ["self", "at"] (defScope s_NoStepsu__initu_) := ⟨rfl, rfl, rfl, by decide +kernel, rfl, by decide +kernel, by decide +kernel⟩
abbrev sp_NoStepsu__initu_ (K : PySem.W.Frag) (A : Adr) : Sp := fun vs H Q _ => ∃ (a : Addr) (v : V), vs = [.ref a, v] ∧ H a = some (exo a A.c_NoSteps none) ∧ ∀ (d : Addr) (H' : Hp), Frm a H H' → H' a = some (exo a A.c_NoSteps (some d)) → H' d = some (exd d [("at", v)]) → Q .non H'
theorem ok_NoStepsu__initu_ (T : Txt w K mg A) : FnOk P w K mg base CX0 1 A.f_NoStepsu__initu_ A.d_NoStepsu__initu_ ["self", "at"] (sp_NoStepsu__initu_ K A) := by
  refine T.F_NoStepsu__initu_.ok sc_NoStepsu__initu_ (fun vs H Q E h => ?_) (fun cdv Ar outer s H vs Q E hr h => ?_)
  · obtain ⟨a, v, rfl, ha, k⟩ := h
    rfl
  · obtain ⟨a, v, rfl, ha, k⟩ := h
    have hu := hu_of hr
    have t_xm_NoForm := T.xm_NoForm
    have t_xm_NoCounter := T.xm_NoCounter
    have t_xm_NoSize := T.xm_NoSize
    have t_xm_NoRing := T.xm_NoRing
    have t_xm_Outside := T.xm_Outside
    have t_xm_NoSet := T.xm_NoSet
    have t_xm_TooLong := T.xm_TooLong
    have t_xm_NotDecided := T.xm_NotDecided
    have t_xm_NoLag := T.xm_NoLag
    have t_xm_NoRow := T.xm_NoRow
    have t_xm_NoName := T.xm_NoName
    have t_xm_Nested := T.xm_Nested
    have t_xm_NoScheme := T.xm_NoScheme
    have t_xm_NoRun := T.xm_NoRun
    have t_xm_NotRight := T.xm_NotRight
    have t_xm_NoHands := T.xm_NoHands
    have t_xm_NoSteps := T.xm_NoSteps
    have t_xm_NoChange := T.xm_NoChange
    refine ⟨_, (pss_one (ps_ost (pv 0) (pv 1))), ?_⟩
    try dsimp only [L2.cxOf, L2.Cx.nox, L2.Cx.wish]
    with_reducible refine Rd.ost (Rd.var (by walk_at "vr") (Rd.var (by walk_at "vr") ?_))
    refine ⟨_, _, rfl, T.ox_NoSteps, T.on_NoSteps, .inl ⟨(by walk_at "hp"), fun d91 nd91 ne91 => ?_⟩⟩
    exact k _ _ (by walk_at "frm") L2.upd_same (by walk_at "hp")
/-! NoChange.__init__ -/
theorem sc_NoChangeu__initu_ : FnScope ["self", "at"] ["self", "at"] (defScope s_NoChangeu__initu_) := ⟨rfl, rfl, rfl, by decide +kernel, rfl, by decide +kernel, by decide +kernel⟩
abbrev sp_NoChangeu__initu_ (K : PySem.W.Frag) (A : Adr) : Sp := fun vs H Q _ => ∃ (a : Addr) (v : V), vs = [.ref a, v] ∧ H a = some (exo a A.c_NoChange none) ∧ ∀ (d : Addr) (H' : Hp), Frm a H H' → H' a = some (exo a A.c_NoChange (some d)) → H' d = some (exd d [("at", v)]) → Q .non H'
theorem ok_NoChangeu__initu_ (T : Txt w K mg A) : FnOk P w K mg base CX0 1 A.f_NoChangeu__initu_ A.d_NoChangeu__initu_ ["self", "at"] (sp_NoChangeu__initu_ K A) := by
  refine T.F_NoChangeu__initu_.ok sc_NoChangeu__initu_ (fun vs H Q E h => ?_) (fun cdv Ar outer s H vs Q E hr h => ?_)
  · obtain ⟨a, v, rfl, ha, k⟩ := h
    rfl
  · obtain ⟨a, v, rfl, ha, k⟩ := h
    have hu := hu_of hr
    have t_xm_NoForm := T.xm_NoForm
    have t_xm_NoCounter := T.xm_NoCounter
    have t_xm_NoSize := T.xm_NoSize
    have t_xm_NoRing := T.xm_NoRing
    have t_xm_Outside := T.xm_Outside
    have t_xm_NoSet := T.xm_NoSet
    have t_xm_TooLong := T.xm_TooLong
    have t_xm_NotDecided := T.xm_NotDecided
    have t_xm_NoLag := T.xm_NoLag
    have t_xm_NoRow := T.xm_NoRow
    have t_xm_NoName := T.xm_NoName
    have t_xm_Nested := T.xm_Nested
    have t_xm_NoScheme := T.xm_NoScheme
    have t_xm_NoRun := T.xm_NoRun
    have t_xm_NotRight := T.xm_NotRight
    have t_xm_NoHands := T.xm_NoHands
    have t_xm_NoSteps := T.xm_NoSteps
    have t_xm_NoChange := T.xm_NoChange
    refine ⟨_, (pss_one (ps_ost (pv 0) (pv 1))), ?_⟩
    try dsimp only [L2.cxOf, L2.Cx.nox, L2.Cx.wish]
    with_reducible refine Rd.ost (Rd.var (by walk_at "vr") (Rd.var (by walk_at "vr") ?_))
    refine ⟨_, _, rfl, T.ox_NoChange, T.on_NoChange, .inl ⟨(by walk_at "hp"), fun d91 nd91 ne91 => ?_⟩⟩
    exact k _ _ (by walk_at "frm") L2.upd_same (by walk_at "hp")
/-! _law_cell -/
theorem sc_l_cell : FnScope ["_law_script", "_law_turn", "_law_cell_here"] ["_law_script", "_law_turn"] (defScope s_l_cell) := ⟨rfl, rfl, rfl, by decide +kernel, rfl, by decide +kernel, by decide +kernel⟩
abbrev sp_l_cell (K : PySem.W.Frag) (A : Adr) : Sp := fun vs H Q _ => ∃ (a : Addr) (ns : List Int) (t : Int), vs = [.ref a, .int t] ∧ SqL K H a (ns.map V.int) ∧ 0 ≤ t ∧ t ≤ 3 ∧ ns.length ≤ 63 ∧ ∀ c : Int, 0 ≤ c → c < 1000000000 → Q (.int c) H
theorem ok_l_cell (T : Txt w K mg A) : FnOk P w K mg base CX0 1 A.f_l_cell A.d_l_cell ["_law_script", "_law_turn"] (sp_l_cell K A) := by
  refine T.F_l_cell.ok sc_l_cell (fun vs H Q E h => ?_) (fun cdv Ar outer s H vs Q E hr h => ?_)
  · obtain ⟨a, ns, t, rfl, ha, t0, t1, hl, k⟩ := h
    rfl
  · obtain ⟨a, ns, t, rfl, ha, t0, t1, hl, k⟩ := h
    have hu := hu_of hr
    have t_xm_NoForm := T.xm_NoForm
    have t_xm_NoCounter := T.xm_NoCounter
    have t_xm_NoSize := T.xm_NoSize
    have t_xm_NoRing := T.xm_NoRing
    have t_xm_Outside := T.xm_Outside
    have t_xm_NoSet := T.xm_NoSet
    have t_xm_TooLong := T.xm_TooLong
    have t_xm_NotDecided := T.xm_NotDecided
    have t_xm_NoLag := T.xm_NoLag
    have t_xm_NoRow := T.xm_NoRow
    have t_xm_NoName := T.xm_NoName
    have t_xm_Nested := T.xm_Nested
    have t_xm_NoScheme := T.xm_NoScheme
    have t_xm_NoRun := T.xm_NoRun
    have t_xm_NotRight := T.xm_NotRight
    have t_xm_NoHands := T.xm_NoHands
    have t_xm_NoSteps := T.xm_NoSteps
    have t_xm_NoChange := T.xm_NoChange
    have e9 : (10 : Int) ^ Int.toNat 9 = 1000000000 := by decide +kernel
    refine ⟨_, (pss_cons (ps_set (i := 2) sc_l_cell.nd rfl (Or.inl rfl) pe_int)
      (pss_cons (ps_if (pt_cmpR op_lt (pv 1) (pe_callB call_len_seq (by rfl) T.n_len PySem.boot_len (pa_cons (pv 0) pa_nil)) (nomark _)) (pss_one (ps_set (i := 2) sc_l_cell.nd rfl (Or.inl rfl) (pe_ix (Rd.ixLK rfl) (pv 0) (pv 1) (fun _ _ => rfl)))) pss_nil)
      (pss_one (ps_ret (pe_op op_mod (pe_callTy call_int1 (by rfl) T.n_int (by decide +kernel) (pa_cons (pv 2) pa_nil)) (pe_op op_pow pe_int pe_int)))))), ?_⟩
    try dsimp only [L2.cxOf, L2.Cx.nox, L2.Cx.wish]
    with_reducible refine Rd.seq (Rd.asg (Rd.c (Rd.name (Rd.seq (Rd.ifS (Rd.test (Rd.op (Rd.var (by walk_at "vr") (Rd.cB (Rd.cons (Rd.var (by walk_at "vr") ?_)))))))))))
    with_reducible refine Rd.nil (⟨_, _, rfl, (by walk_at "hpq"), (Rd.i0 (Rd.bl ?_))⟩)
    refine Rd.ite (fun h0 => ?_) (fun h0 => ?_)
    · try simp only [decide_eq_true_eq, Bool.not_eq_true', decide_eq_false_iff_not, Bool.not_eq_true, Bool.not_eq_eq_eq_not, Bool.not_true, Bool.not_false] at h0
      with_reducible refine Rd.asg (Rd.op (Rd.var (by walk_at "vr") (Rd.var (by walk_at "vr") ?_)))
      obtain ⟨z, hz⟩ := atI_map t0 (by simpa using h0)
      refine Rd.ixL (by walk_at "hpl") hz ?_
      with_reducible refine Rd.name (Rd.ret (Rd.op (Rd.cB (Rd.cons (Rd.var (by walk_at "vr") (Rd.nil ((.inl ⟨_, rfl, (Rd.op (Rd.c (Rd.c (Rd.iC (by walk_at "scp") ?_))))⟩))))))))
      with_reducible refine Rd.iC (by walk_at "sc") ?_
      rw [e9]
      exact k _ (Int.emod_nonneg _ (by decide)) (Int.emod_lt_of_pos _ (by decide))
    · try simp only [decide_eq_true_eq, Bool.not_eq_true', decide_eq_false_iff_not, Bool.not_eq_true, Bool.not_eq_eq_eq_not, Bool.not_true, Bool.not_false, Int.not_lt, Int.not_le, Decidable.not_not] at h0
      with_reducible refine Rd.next (Rd.ret (Rd.op (Rd.cB (Rd.cons (Rd.var (by walk_at "vr") (Rd.nil ((.inl ⟨_, rfl, (Rd.op (Rd.c (Rd.c (Rd.iC (by walk_at "scp") ?_))))⟩))))))))
      with_reducible refine Rd.iC (by walk_at "sc") ?_
      rw [e9]
      exact k _ (Int.emod_nonneg _ (by decide)) (Int.emod_lt_of_pos _ (by decide))
/-! _law_parts -/
theorem sc_l_parts : FnScope ["_law_cell_here", "_law_part", "_law_why", "_law_hand", "_law_spot", "_law_many"] ["_law_cell_here"] (defScope s_l_parts) := ⟨rfl, rfl, rfl, by decide +kernel, rfl, by decide +kernel, by decide +kernel⟩
abbrev sp_l_parts (K : PySem.W.Frag) (A : Adr) : Sp := fun vs H Q _ => ∃ c : Int, vs = [.int c] ∧ 0 ≤ c ∧ c < 1000000000 ∧ ∀ (p : Addr) (v1 v2 v3 v4 v5 v6 : V) (r1 r2 r3 r4 r5 r6 : Str) (H' : Hp), Same H H' → H p = none → H' p = some (.lst [v1, v2, v3, v4, v5, v6]) → RV v1 r1 → RV v2 r2 → RV v3 r3 → RV v4 r4 → RV v5 r5 → RV v6 r6 → Q (.ref p) H'
theorem ok_l_parts (T : Txt w K mg A) : FnOk P w K mg base CX0 1 A.f_l_parts A.d_l_parts ["_law_cell_here"] (sp_l_parts K A) := by
  refine T.F_l_parts.ok sc_l_parts (fun vs H Q E h => ?_) (fun cdv Ar outer s H vs Q E hr h => ?_)
  · obtain ⟨c, rfl, c0, c1, k⟩ := h
    rfl
  · obtain ⟨c, rfl, c0, c1, k⟩ := h
    have hu := hu_of hr
    have t_xm_NoForm := T.xm_NoForm
    have t_xm_NoCounter := T.xm_NoCounter
    have t_xm_NoSize := T.xm_NoSize
    have t_xm_NoRing := T.xm_NoRing
    have t_xm_Outside := T.xm_Outside
    have t_xm_NoSet := T.xm_NoSet
    have t_xm_TooLong := T.xm_TooLong
    have t_xm_NotDecided := T.xm_NotDecided
    have t_xm_NoLag := T.xm_NoLag
    have t_xm_NoRow := T.xm_NoRow
    have t_xm_NoName := T.xm_NoName
    have t_xm_Nested := T.xm_Nested
    have t_xm_NoScheme := T.xm_NoScheme
    have t_xm_NoRun := T.xm_NoRun
    have t_xm_NotRight := T.xm_NotRight
    have t_xm_NoHands := T.xm_NoHands
    have t_xm_NoSteps := T.xm_NoSteps
    have t_xm_NoChange := T.xm_NoChange
    obtain ⟨w1, atw1, rvw1⟩ : ∃ x, atI [V.str "wrap", V.str "slot", V.str "empty", V.str "full", V.str "when", V.str "part", V.str "text", V.str "scheme"] (c % 8) = some (.str x) ∧ RV (.str x) (reprText x) := at_word ok_P (i := c % 8) (Int.emod_nonneg _ (by decide)) (Int.emod_lt_of_pos _ (by decide))
    obtain ⟨w2, atw2, rvw2⟩ : ∃ x, atI [V.str "nothing", V.str "shut", V.str "outside", V.str "empty", V.str "slot"] (c % 5) = some (.str x) ∧ RV (.str x) (reprText x) := at_word ok_W (i := c % 5) (Int.emod_nonneg _ (by decide)) (Int.emod_lt_of_pos _ (by decide))
    obtain ⟨w3, atw3, rvw3⟩ : ∃ x, atI [V.str "writing", V.str "reading", V.str "looking", V.str "telling", V.str "part", V.str "many", V.str "tell", V.str "test", V.str "full"] (c % 9) = some (.str x) ∧ RV (.str x) (reprText x) := at_word ok_H (i := c % 9) (Int.emod_nonneg _ (by decide)) (Int.emod_lt_of_pos _ (by decide))
    obtain ⟨rs, rvs⟩ := rv_int (i := c % 100) (Int.emod_nonneg _ (by decide)) (Int.emod_lt_of_pos _ (by decide))
    obtain ⟨rm, rvm⟩ := rv_int (i := c / 100 % 7) (Int.emod_nonneg _ (by decide)) (by have := Int.emod_lt_of_pos (c / 100) (show (0 : Int) < 7 by decide); omega)
    rcases Decidable.em (c % 3 = 0) with h3 | h3 <;> rcases Decidable.em (c / 100 % 7 = 6) with h6 | h6
    · skip
      refine ⟨_, (pss_cons (ps_set (i := 1) sc_l_parts.nd rfl (Or.inl rfl) (pe_ix (Rd.ixLK rfl) (pe_lst (pa_cons pe_str (pa_cons pe_str (pa_cons pe_str (pa_cons pe_str (pa_cons pe_str (pa_cons pe_str (pa_cons pe_str (pa_cons pe_str pa_nil))))))))) (pe_op op_mod (pe_callTy call_int1 (by rfl) T.n_int (by decide +kernel) (pa_cons (pv 0) pa_nil)) pe_int) (fun _ _ => rfl)))
      (pss_cons (ps_set (i := 2) sc_l_parts.nd rfl (Or.inl rfl) (pe_ix (Rd.ixLK rfl) (pe_lst (pa_cons pe_str (pa_cons pe_str (pa_cons pe_str (pa_cons pe_str (pa_cons pe_str pa_nil)))))) (pe_op op_mod (pe_callTy call_int1 (by rfl) T.n_int (by decide +kernel) (pa_cons (pv 0) pa_nil)) pe_int) (fun _ _ => rfl)))
      (pss_cons (ps_set (i := 3) sc_l_parts.nd rfl (Or.inl rfl) (pe_ix (Rd.ixLK rfl) (pe_lst (pa_cons pe_str (pa_cons pe_str (pa_cons pe_str (pa_cons pe_str (pa_cons pe_str (pa_cons pe_str (pa_cons pe_str (pa_cons pe_str (pa_cons pe_str pa_nil)))))))))) (pe_op op_mod (pe_callTy call_int1 (by rfl) T.n_int (by decide +kernel) (pa_cons (pv 0) pa_nil)) pe_int) (fun _ _ => rfl)))
      (pss_cons (ps_par (by rfl) sc_l_parts.nd (i := 4) (j := 5) rfl rfl (by decide) rfl rfl (pa_cons (pe_op op_mod (pe_callTy call_int1 (by rfl) T.n_int (by decide +kernel) (pa_cons (pv 0) pa_nil)) pe_int) (pa_cons (pe_op op_mod (pe_op op_fdivW (pe_callTy call_int1 (by rfl) T.n_int (by decide +kernel) (pa_cons (pv 0) pa_nil)) pe_int) pe_int) pa_nil)) (by rfl))
      (pss_one (ps_ret (pe_lst (pa_cons (pv 1) (pa_cons (pe_ifExp (pt_cmpR op_eq (pe_op op_mod (pe_callTy call_int1 (by rfl) T.n_int (by decide +kernel) (pa_cons (pv 0) pa_nil)) pe_int) pe_int (nomark _)) pe_non Rd.peN) (pa_cons (pv 2) (pa_cons (pv 3) (pa_cons (pv 4) (pa_cons (pe_ifExp (pt_cmpR op_eq (pv 5) pe_int (nomark _)) pe_non Rd.peN) pa_nil))))))))))))), ?_⟩
      try dsimp only [L2.cxOf, L2.Cx.nox, L2.Cx.wish]
      with_reducible refine Rd.seq (Rd.asg (Rd.op (Rd.lst (Rd.cons (Rd.c (Rd.cons (Rd.c (Rd.cons (Rd.c (Rd.cons (Rd.c ?_)))))))))))
      with_reducible refine Rd.cons (Rd.c (Rd.cons (Rd.c (Rd.cons (Rd.c (Rd.cons (Rd.c (Rd.nil (Rd.laid (by walk_at "ll") ?_)))))))))
      intro p0 np0
      with_reducible refine Rd.op (Rd.cB (Rd.cons (Rd.var (by walk_at "vr") (Rd.nil ((.inl ⟨_, rfl, (Rd.c (Rd.iC (by walk_at "sc") ?_))⟩))))))
      refine Rd.ixL (.of (by walk_at "hp")) atw1 ?_
      with_reducible refine Rd.name (Rd.seq (Rd.asg (Rd.op (Rd.lst (Rd.cons (Rd.c (Rd.cons (Rd.c (Rd.cons (Rd.c (Rd.cons ?_)))))))))))
      with_reducible refine Rd.c (Rd.cons (Rd.c (Rd.nil (Rd.laid (by walk_at "ll") ?_))))
      intro p1 np1
      with_reducible refine Rd.op (Rd.cB (Rd.cons (Rd.var (by walk_at "vr") (Rd.nil ((.inl ⟨_, rfl, (Rd.c (Rd.iC (by walk_at "sc") ?_))⟩))))))
      refine Rd.ixL (.of (by walk_at "hp")) atw2 ?_
      with_reducible refine Rd.name (Rd.seq (Rd.asg (Rd.op (Rd.lst (Rd.cons (Rd.c (Rd.cons (Rd.c (Rd.cons (Rd.c (Rd.cons ?_)))))))))))
      with_reducible refine Rd.c (Rd.cons (Rd.c (Rd.cons (Rd.c (Rd.cons (Rd.c (Rd.cons (Rd.c (Rd.cons (Rd.c (Rd.nil ?_)))))))))))
      with_reducible refine Rd.laid (by walk_at "ll") ?_
      intro p2 np2
      with_reducible refine Rd.op (Rd.cB (Rd.cons (Rd.var (by walk_at "vr") (Rd.nil ((.inl ⟨_, rfl, (Rd.c (Rd.iC (by walk_at "sc") ?_))⟩))))))
      refine Rd.ixL (.of (by walk_at "hp")) atw3 ?_
      with_reducible refine Rd.name (Rd.seq (Rd.par (Rd.cons (Rd.op (Rd.cB (Rd.cons (Rd.var (by walk_at "vr") (Rd.nil ((.inl ⟨_, rfl, (Rd.c (Rd.iC (by walk_at "sc") ?_))⟩))))))))))
      with_reducible refine Rd.cons (Rd.op (Rd.op (Rd.cB (Rd.cons (Rd.var (by walk_at "vr") (Rd.nil ((.inl ⟨_, rfl, (Rd.c (Rd.iC (by walk_at "scd") (Rd.c (Rd.iC (by walk_at "sc") ?_))))⟩))))))))
      with_reducible refine Rd.nil (⟨_, _, rfl, (Rd.ret (Rd.lst (Rd.cons (Rd.var (by walk_at "vr") (Rd.cons (Rd.ifE (Rd.test (Rd.op (Rd.op (Rd.cB ?_))))))))))⟩)
      with_reducible refine Rd.cons (Rd.var (by walk_at "vr") (Rd.nil ((.inl ⟨_, rfl, (Rd.c (Rd.iC (by walk_at "sc") (Rd.c (Rd.eqS (by walk_at "vr") (Rd.bl (Rd.iteT (by walk_at "bT") (Rd.c (Rd.cons ?_))))))))⟩))))
      with_reducible refine Rd.var (by walk_at "vr") (Rd.cons (Rd.var (by walk_at "vr") (Rd.cons (Rd.var (by walk_at "vr") (Rd.cons (Rd.ifE (Rd.test (Rd.op (Rd.var (by walk_at "vr") (Rd.c (Rd.eqS (by walk_at "vr") ?_)))))))))))
      with_reducible refine Rd.bl (Rd.iteT (by walk_at "bT") (Rd.c (Rd.nil (Rd.laid (by walk_at "ll") ?_))))
      intro p4 np4
      exact k _ _ _ _ _ _ _ _ _ _ _ _ _ _ (by walk_at "frm") (by walk_at "nn") (by walk_at "hp") rvw1 rv_non rvw2 rvw3 rvs rv_non
    · skip
      refine ⟨_, (pss_cons (ps_set (i := 1) sc_l_parts.nd rfl (Or.inl rfl) (pe_ix (Rd.ixLK rfl) (pe_lst (pa_cons pe_str (pa_cons pe_str (pa_cons pe_str (pa_cons pe_str (pa_cons pe_str (pa_cons pe_str (pa_cons pe_str (pa_cons pe_str pa_nil))))))))) (pe_op op_mod (pe_callTy call_int1 (by rfl) T.n_int (by decide +kernel) (pa_cons (pv 0) pa_nil)) pe_int) (fun _ _ => rfl)))
      (pss_cons (ps_set (i := 2) sc_l_parts.nd rfl (Or.inl rfl) (pe_ix (Rd.ixLK rfl) (pe_lst (pa_cons pe_str (pa_cons pe_str (pa_cons pe_str (pa_cons pe_str (pa_cons pe_str pa_nil)))))) (pe_op op_mod (pe_callTy call_int1 (by rfl) T.n_int (by decide +kernel) (pa_cons (pv 0) pa_nil)) pe_int) (fun _ _ => rfl)))
      (pss_cons (ps_set (i := 3) sc_l_parts.nd rfl (Or.inl rfl) (pe_ix (Rd.ixLK rfl) (pe_lst (pa_cons pe_str (pa_cons pe_str (pa_cons pe_str (pa_cons pe_str (pa_cons pe_str (pa_cons pe_str (pa_cons pe_str (pa_cons pe_str (pa_cons pe_str pa_nil)))))))))) (pe_op op_mod (pe_callTy call_int1 (by rfl) T.n_int (by decide +kernel) (pa_cons (pv 0) pa_nil)) pe_int) (fun _ _ => rfl)))
      (pss_cons (ps_par (by rfl) sc_l_parts.nd (i := 4) (j := 5) rfl rfl (by decide) rfl rfl (pa_cons (pe_op op_mod (pe_callTy call_int1 (by rfl) T.n_int (by decide +kernel) (pa_cons (pv 0) pa_nil)) pe_int) (pa_cons (pe_op op_mod (pe_op op_fdivW (pe_callTy call_int1 (by rfl) T.n_int (by decide +kernel) (pa_cons (pv 0) pa_nil)) pe_int) pe_int) pa_nil)) (by rfl))
      (pss_one (ps_ret (pe_lst (pa_cons (pv 1) (pa_cons (pe_ifExp (pt_cmpR op_eq (pe_op op_mod (pe_callTy call_int1 (by rfl) T.n_int (by decide +kernel) (pa_cons (pv 0) pa_nil)) pe_int) pe_int (nomark _)) pe_non Rd.peN) (pa_cons (pv 2) (pa_cons (pv 3) (pa_cons (pv 4) (pa_cons (pe_ifExp (pt_cmpR op_eq (pv 5) pe_int (nomark _)) Rd.peN (pv 5)) pa_nil))))))))))))), ?_⟩
      try dsimp only [L2.cxOf, L2.Cx.nox, L2.Cx.wish]
      with_reducible refine Rd.seq (Rd.asg (Rd.op (Rd.lst (Rd.cons (Rd.c (Rd.cons (Rd.c (Rd.cons (Rd.c (Rd.cons (Rd.c ?_)))))))))))
      with_reducible refine Rd.cons (Rd.c (Rd.cons (Rd.c (Rd.cons (Rd.c (Rd.cons (Rd.c (Rd.nil (Rd.laid (by walk_at "ll") ?_)))))))))
      intro p0 np0
      with_reducible refine Rd.op (Rd.cB (Rd.cons (Rd.var (by walk_at "vr") (Rd.nil ((.inl ⟨_, rfl, (Rd.c (Rd.iC (by walk_at "sc") ?_))⟩))))))
      refine Rd.ixL (.of (by walk_at "hp")) atw1 ?_
      with_reducible refine Rd.name (Rd.seq (Rd.asg (Rd.op (Rd.lst (Rd.cons (Rd.c (Rd.cons (Rd.c (Rd.cons (Rd.c (Rd.cons ?_)))))))))))
      with_reducible refine Rd.c (Rd.cons (Rd.c (Rd.nil (Rd.laid (by walk_at "ll") ?_))))
      intro p1 np1
      with_reducible refine Rd.op (Rd.cB (Rd.cons (Rd.var (by walk_at "vr") (Rd.nil ((.inl ⟨_, rfl, (Rd.c (Rd.iC (by walk_at "sc") ?_))⟩))))))
      refine Rd.ixL (.of (by walk_at "hp")) atw2 ?_
      with_reducible refine Rd.name (Rd.seq (Rd.asg (Rd.op (Rd.lst (Rd.cons (Rd.c (Rd.cons (Rd.c (Rd.cons (Rd.c (Rd.cons ?_)))))))))))
      with_reducible refine Rd.c (Rd.cons (Rd.c (Rd.cons (Rd.c (Rd.cons (Rd.c (Rd.cons (Rd.c (Rd.cons (Rd.c (Rd.nil ?_)))))))))))
      with_reducible refine Rd.laid (by walk_at "ll") ?_
      intro p2 np2
      with_reducible refine Rd.op (Rd.cB (Rd.cons (Rd.var (by walk_at "vr") (Rd.nil ((.inl ⟨_, rfl, (Rd.c (Rd.iC (by walk_at "sc") ?_))⟩))))))
      refine Rd.ixL (.of (by walk_at "hp")) atw3 ?_
      with_reducible refine Rd.name (Rd.seq (Rd.par (Rd.cons (Rd.op (Rd.cB (Rd.cons (Rd.var (by walk_at "vr") (Rd.nil ((.inl ⟨_, rfl, (Rd.c (Rd.iC (by walk_at "sc") ?_))⟩))))))))))
      with_reducible refine Rd.cons (Rd.op (Rd.op (Rd.cB (Rd.cons (Rd.var (by walk_at "vr") (Rd.nil ((.inl ⟨_, rfl, (Rd.c (Rd.iC (by walk_at "scd") (Rd.c (Rd.iC (by walk_at "sc") ?_))))⟩))))))))
      with_reducible refine Rd.nil (⟨_, _, rfl, (Rd.ret (Rd.lst (Rd.cons (Rd.var (by walk_at "vr") (Rd.cons (Rd.ifE (Rd.test (Rd.op (Rd.op (Rd.cB ?_))))))))))⟩)
      with_reducible refine Rd.cons (Rd.var (by walk_at "vr") (Rd.nil ((.inl ⟨_, rfl, (Rd.c (Rd.iC (by walk_at "sc") (Rd.c (Rd.eqS (by walk_at "vr") (Rd.bl (Rd.iteT (by walk_at "bT") (Rd.c (Rd.cons ?_))))))))⟩))))
      with_reducible refine Rd.var (by walk_at "vr") (Rd.cons (Rd.var (by walk_at "vr") (Rd.cons (Rd.var (by walk_at "vr") (Rd.cons (Rd.ifE (Rd.test (Rd.op (Rd.var (by walk_at "vr") (Rd.c (Rd.eqS (by walk_at "vr") ?_)))))))))))
      with_reducible refine Rd.bl (Rd.iteF (by walk_at "bF") (Rd.var (by walk_at "vr") (Rd.nil (Rd.laid (by walk_at "ll") ?_))))
      intro p4 np4
      exact k _ _ _ _ _ _ _ _ _ _ _ _ _ _ (by walk_at "frm") (by walk_at "nn") (by walk_at "hp") rvw1 rv_non rvw2 rvw3 rvs rvm
    · skip
      refine ⟨_, (pss_cons (ps_set (i := 1) sc_l_parts.nd rfl (Or.inl rfl) (pe_ix (Rd.ixLK rfl) (pe_lst (pa_cons pe_str (pa_cons pe_str (pa_cons pe_str (pa_cons pe_str (pa_cons pe_str (pa_cons pe_str (pa_cons pe_str (pa_cons pe_str pa_nil))))))))) (pe_op op_mod (pe_callTy call_int1 (by rfl) T.n_int (by decide +kernel) (pa_cons (pv 0) pa_nil)) pe_int) (fun _ _ => rfl)))
      (pss_cons (ps_set (i := 2) sc_l_parts.nd rfl (Or.inl rfl) (pe_ix (Rd.ixLK rfl) (pe_lst (pa_cons pe_str (pa_cons pe_str (pa_cons pe_str (pa_cons pe_str (pa_cons pe_str pa_nil)))))) (pe_op op_mod (pe_callTy call_int1 (by rfl) T.n_int (by decide +kernel) (pa_cons (pv 0) pa_nil)) pe_int) (fun _ _ => rfl)))
      (pss_cons (ps_set (i := 3) sc_l_parts.nd rfl (Or.inl rfl) (pe_ix (Rd.ixLK rfl) (pe_lst (pa_cons pe_str (pa_cons pe_str (pa_cons pe_str (pa_cons pe_str (pa_cons pe_str (pa_cons pe_str (pa_cons pe_str (pa_cons pe_str (pa_cons pe_str pa_nil)))))))))) (pe_op op_mod (pe_callTy call_int1 (by rfl) T.n_int (by decide +kernel) (pa_cons (pv 0) pa_nil)) pe_int) (fun _ _ => rfl)))
      (pss_cons (ps_par (by rfl) sc_l_parts.nd (i := 4) (j := 5) rfl rfl (by decide) rfl rfl (pa_cons (pe_op op_mod (pe_callTy call_int1 (by rfl) T.n_int (by decide +kernel) (pa_cons (pv 0) pa_nil)) pe_int) (pa_cons (pe_op op_mod (pe_op op_fdivW (pe_callTy call_int1 (by rfl) T.n_int (by decide +kernel) (pa_cons (pv 0) pa_nil)) pe_int) pe_int) pa_nil)) (by rfl))
      (pss_one (ps_ret (pe_lst (pa_cons (pv 1) (pa_cons (pe_ifExp (pt_cmpR op_eq (pe_op op_mod (pe_callTy call_int1 (by rfl) T.n_int (by decide +kernel) (pa_cons (pv 0) pa_nil)) pe_int) pe_int (nomark _)) Rd.peN (pv 4)) (pa_cons (pv 2) (pa_cons (pv 3) (pa_cons (pv 4) (pa_cons (pe_ifExp (pt_cmpR op_eq (pv 5) pe_int (nomark _)) pe_non Rd.peN) pa_nil))))))))))))), ?_⟩
      try dsimp only [L2.cxOf, L2.Cx.nox, L2.Cx.wish]
      with_reducible refine Rd.seq (Rd.asg (Rd.op (Rd.lst (Rd.cons (Rd.c (Rd.cons (Rd.c (Rd.cons (Rd.c (Rd.cons (Rd.c ?_)))))))))))
      with_reducible refine Rd.cons (Rd.c (Rd.cons (Rd.c (Rd.cons (Rd.c (Rd.cons (Rd.c (Rd.nil (Rd.laid (by walk_at "ll") ?_)))))))))
      intro p0 np0
      with_reducible refine Rd.op (Rd.cB (Rd.cons (Rd.var (by walk_at "vr") (Rd.nil ((.inl ⟨_, rfl, (Rd.c (Rd.iC (by walk_at "sc") ?_))⟩))))))
      refine Rd.ixL (.of (by walk_at "hp")) atw1 ?_
      with_reducible refine Rd.name (Rd.seq (Rd.asg (Rd.op (Rd.lst (Rd.cons (Rd.c (Rd.cons (Rd.c (Rd.cons (Rd.c (Rd.cons ?_)))))))))))
      with_reducible refine Rd.c (Rd.cons (Rd.c (Rd.nil (Rd.laid (by walk_at "ll") ?_))))
      intro p1 np1
      with_reducible refine Rd.op (Rd.cB (Rd.cons (Rd.var (by walk_at "vr") (Rd.nil ((.inl ⟨_, rfl, (Rd.c (Rd.iC (by walk_at "sc") ?_))⟩))))))
      refine Rd.ixL (.of (by walk_at "hp")) atw2 ?_
      with_reducible refine Rd.name (Rd.seq (Rd.asg (Rd.op (Rd.lst (Rd.cons (Rd.c (Rd.cons (Rd.c (Rd.cons (Rd.c (Rd.cons ?_)))))))))))
      with_reducible refine Rd.c (Rd.cons (Rd.c (Rd.cons (Rd.c (Rd.cons (Rd.c (Rd.cons (Rd.c (Rd.cons (Rd.c (Rd.nil ?_)))))))))))
      with_reducible refine Rd.laid (by walk_at "ll") ?_
      intro p2 np2
      with_reducible refine Rd.op (Rd.cB (Rd.cons (Rd.var (by walk_at "vr") (Rd.nil ((.inl ⟨_, rfl, (Rd.c (Rd.iC (by walk_at "sc") ?_))⟩))))))
      refine Rd.ixL (.of (by walk_at "hp")) atw3 ?_
      with_reducible refine Rd.name (Rd.seq (Rd.par (Rd.cons (Rd.op (Rd.cB (Rd.cons (Rd.var (by walk_at "vr") (Rd.nil ((.inl ⟨_, rfl, (Rd.c (Rd.iC (by walk_at "sc") ?_))⟩))))))))))
      with_reducible refine Rd.cons (Rd.op (Rd.op (Rd.cB (Rd.cons (Rd.var (by walk_at "vr") (Rd.nil ((.inl ⟨_, rfl, (Rd.c (Rd.iC (by walk_at "scd") (Rd.c (Rd.iC (by walk_at "sc") ?_))))⟩))))))))
      with_reducible refine Rd.nil (⟨_, _, rfl, (Rd.ret (Rd.lst (Rd.cons (Rd.var (by walk_at "vr") (Rd.cons (Rd.ifE (Rd.test (Rd.op (Rd.op (Rd.cB ?_))))))))))⟩)
      with_reducible refine Rd.cons (Rd.var (by walk_at "vr") (Rd.nil ((.inl ⟨_, rfl, (Rd.c (Rd.iC (by walk_at "sc") (Rd.c (Rd.eqS (by walk_at "vr") (Rd.bl (Rd.iteF (by walk_at "bF") (Rd.var (by walk_at "vr") (Rd.cons ?_))))))))⟩))))
      with_reducible refine Rd.var (by walk_at "vr") (Rd.cons (Rd.var (by walk_at "vr") (Rd.cons (Rd.var (by walk_at "vr") (Rd.cons (Rd.ifE (Rd.test (Rd.op (Rd.var (by walk_at "vr") (Rd.c (Rd.eqS (by walk_at "vr") ?_)))))))))))
      with_reducible refine Rd.bl (Rd.iteT (by walk_at "bT") (Rd.c (Rd.nil (Rd.laid (by walk_at "ll") ?_))))
      intro p4 np4
      exact k _ _ _ _ _ _ _ _ _ _ _ _ _ _ (by walk_at "frm") (by walk_at "nn") (by walk_at "hp") rvw1 rvs rvw2 rvw3 rvs rv_non
    · skip
      refine ⟨_, (pss_cons (ps_set (i := 1) sc_l_parts.nd rfl (Or.inl rfl) (pe_ix (Rd.ixLK rfl) (pe_lst (pa_cons pe_str (pa_cons pe_str (pa_cons pe_str (pa_cons pe_str (pa_cons pe_str (pa_cons pe_str (pa_cons pe_str (pa_cons pe_str pa_nil))))))))) (pe_op op_mod (pe_callTy call_int1 (by rfl) T.n_int (by decide +kernel) (pa_cons (pv 0) pa_nil)) pe_int) (fun _ _ => rfl)))
      (pss_cons (ps_set (i := 2) sc_l_parts.nd rfl (Or.inl rfl) (pe_ix (Rd.ixLK rfl) (pe_lst (pa_cons pe_str (pa_cons pe_str (pa_cons pe_str (pa_cons pe_str (pa_cons pe_str pa_nil)))))) (pe_op op_mod (pe_callTy call_int1 (by rfl) T.n_int (by decide +kernel) (pa_cons (pv 0) pa_nil)) pe_int) (fun _ _ => rfl)))
      (pss_cons (ps_set (i := 3) sc_l_parts.nd rfl (Or.inl rfl) (pe_ix (Rd.ixLK rfl) (pe_lst (pa_cons pe_str (pa_cons pe_str (pa_cons pe_str (pa_cons pe_str (pa_cons pe_str (pa_cons pe_str (pa_cons pe_str (pa_cons pe_str (pa_cons pe_str pa_nil)))))))))) (pe_op op_mod (pe_callTy call_int1 (by rfl) T.n_int (by decide +kernel) (pa_cons (pv 0) pa_nil)) pe_int) (fun _ _ => rfl)))
      (pss_cons (ps_par (by rfl) sc_l_parts.nd (i := 4) (j := 5) rfl rfl (by decide) rfl rfl (pa_cons (pe_op op_mod (pe_callTy call_int1 (by rfl) T.n_int (by decide +kernel) (pa_cons (pv 0) pa_nil)) pe_int) (pa_cons (pe_op op_mod (pe_op op_fdivW (pe_callTy call_int1 (by rfl) T.n_int (by decide +kernel) (pa_cons (pv 0) pa_nil)) pe_int) pe_int) pa_nil)) (by rfl))
      (pss_one (ps_ret (pe_lst (pa_cons (pv 1) (pa_cons (pe_ifExp (pt_cmpR op_eq (pe_op op_mod (pe_callTy call_int1 (by rfl) T.n_int (by decide +kernel) (pa_cons (pv 0) pa_nil)) pe_int) pe_int (nomark _)) Rd.peN (pv 4)) (pa_cons (pv 2) (pa_cons (pv 3) (pa_cons (pv 4) (pa_cons (pe_ifExp (pt_cmpR op_eq (pv 5) pe_int (nomark _)) Rd.peN (pv 5)) pa_nil))))))))))))), ?_⟩
      try dsimp only [L2.cxOf, L2.Cx.nox, L2.Cx.wish]
      with_reducible refine Rd.seq (Rd.asg (Rd.op (Rd.lst (Rd.cons (Rd.c (Rd.cons (Rd.c (Rd.cons (Rd.c (Rd.cons (Rd.c ?_)))))))))))
      with_reducible refine Rd.cons (Rd.c (Rd.cons (Rd.c (Rd.cons (Rd.c (Rd.cons (Rd.c (Rd.nil (Rd.laid (by walk_at "ll") ?_)))))))))
      intro p0 np0
      with_reducible refine Rd.op (Rd.cB (Rd.cons (Rd.var (by walk_at "vr") (Rd.nil ((.inl ⟨_, rfl, (Rd.c (Rd.iC (by walk_at "sc") ?_))⟩))))))
      refine Rd.ixL (.of (by walk_at "hp")) atw1 ?_
      with_reducible refine Rd.name (Rd.seq (Rd.asg (Rd.op (Rd.lst (Rd.cons (Rd.c (Rd.cons (Rd.c (Rd.cons (Rd.c (Rd.cons ?_)))))))))))
      with_reducible refine Rd.c (Rd.cons (Rd.c (Rd.nil (Rd.laid (by walk_at "ll") ?_))))
      intro p1 np1
      with_reducible refine Rd.op (Rd.cB (Rd.cons (Rd.var (by walk_at "vr") (Rd.nil ((.inl ⟨_, rfl, (Rd.c (Rd.iC (by walk_at "sc") ?_))⟩))))))
      refine Rd.ixL (.of (by walk_at "hp")) atw2 ?_
      with_reducible refine Rd.name (Rd.seq (Rd.asg (Rd.op (Rd.lst (Rd.cons (Rd.c (Rd.cons (Rd.c (Rd.cons (Rd.c (Rd.cons ?_)))))))))))
      with_reducible refine Rd.c (Rd.cons (Rd.c (Rd.cons (Rd.c (Rd.cons (Rd.c (Rd.cons (Rd.c (Rd.cons (Rd.c (Rd.nil ?_)))))))))))
      with_reducible refine Rd.laid (by walk_at "ll") ?_
      intro p2 np2
      with_reducible refine Rd.op (Rd.cB (Rd.cons (Rd.var (by walk_at "vr") (Rd.nil ((.inl ⟨_, rfl, (Rd.c (Rd.iC (by walk_at "sc") ?_))⟩))))))
      refine Rd.ixL (.of (by walk_at "hp")) atw3 ?_
      with_reducible refine Rd.name (Rd.seq (Rd.par (Rd.cons (Rd.op (Rd.cB (Rd.cons (Rd.var (by walk_at "vr") (Rd.nil ((.inl ⟨_, rfl, (Rd.c (Rd.iC (by walk_at "sc") ?_))⟩))))))))))
      with_reducible refine Rd.cons (Rd.op (Rd.op (Rd.cB (Rd.cons (Rd.var (by walk_at "vr") (Rd.nil ((.inl ⟨_, rfl, (Rd.c (Rd.iC (by walk_at "scd") (Rd.c (Rd.iC (by walk_at "sc") ?_))))⟩))))))))
      with_reducible refine Rd.nil (⟨_, _, rfl, (Rd.ret (Rd.lst (Rd.cons (Rd.var (by walk_at "vr") (Rd.cons (Rd.ifE (Rd.test (Rd.op (Rd.op (Rd.cB ?_))))))))))⟩)
      with_reducible refine Rd.cons (Rd.var (by walk_at "vr") (Rd.nil ((.inl ⟨_, rfl, (Rd.c (Rd.iC (by walk_at "sc") (Rd.c (Rd.eqS (by walk_at "vr") (Rd.bl (Rd.iteF (by walk_at "bF") (Rd.var (by walk_at "vr") (Rd.cons ?_))))))))⟩))))
      with_reducible refine Rd.var (by walk_at "vr") (Rd.cons (Rd.var (by walk_at "vr") (Rd.cons (Rd.var (by walk_at "vr") (Rd.cons (Rd.ifE (Rd.test (Rd.op (Rd.var (by walk_at "vr") (Rd.c (Rd.eqS (by walk_at "vr") ?_)))))))))))
      with_reducible refine Rd.bl (Rd.iteF (by walk_at "bF") (Rd.var (by walk_at "vr") (Rd.nil (Rd.laid (by walk_at "ll") ?_))))
      intro p4 np4
      exact k _ _ _ _ _ _ _ _ _ _ _ _ _ _ (by walk_at "frm") (by walk_at "nn") (by walk_at "hp") rvw1 rvs rvw2 rvw3 rvs rvm
/-! _law_of_text -/
theorem sc_l_of_text : FnScope ["_law_text", "_law_found"] ["_law_text"] (defScope s_l_of_text) := ⟨rfl, rfl, rfl, by decide +kernel, rfl, by decide +kernel, by decide +kernel⟩
abbrev sp_l_of_text (K : PySem.W.Frag) (A : Adr) : Sp := fun vs H Q _ => ∃ s : V, vs = [s] ∧ ∀ (p : Addr) (l : List V) (H' : Hp), Same H H' → H p = none → H' p = some (.lst l) → Es H' l (cls1 A) → Q (.ref p) H'
theorem ok_l_of_text (T : Txt w K mg A) : FnOk P w K mg base CX0 1 A.f_l_of_text A.d_l_of_text ["_law_text"] (sp_l_of_text K A) := by
  refine T.F_l_of_text.ok sc_l_of_text (fun vs H Q E h => ?_) (fun cdv Ar outer s H vs Q E hr h => ?_)
  · obtain ⟨s, rfl, k⟩ := h
    rfl
  · obtain ⟨s, rfl, k⟩ := h
    have hu := hu_of hr
    have t_xm_NoForm := T.xm_NoForm
    have t_xm_NoCounter := T.xm_NoCounter
    have t_xm_NoSize := T.xm_NoSize
    have t_xm_NoRing := T.xm_NoRing
    have t_xm_Outside := T.xm_Outside
    have t_xm_NoSet := T.xm_NoSet
    have t_xm_TooLong := T.xm_TooLong
    have t_xm_NotDecided := T.xm_NotDecided
    have t_xm_NoLag := T.xm_NoLag
    have t_xm_NoRow := T.xm_NoRow
    have t_xm_NoName := T.xm_NoName
    have t_xm_Nested := T.xm_Nested
    have t_xm_NoScheme := T.xm_NoScheme
    have t_xm_NoRun := T.xm_NoRun
    have t_xm_NotRight := T.xm_NotRight
    have t_xm_NoHands := T.xm_NoHands
    have t_xm_NoSteps := T.xm_NoSteps
    have t_xm_NoChange := T.xm_NoChange
    refine ⟨_, (pss_cons (ps_set (i := 1) sc_l_of_text.nd rfl (Or.inl rfl) (pe_lst (pa_cons (ExV.pe_ex1 PySem.F.excBase_ValueError T.x_NoForm T.m_NoForm T.kp_NoForm (by rfl) (pv 0)) (pa_cons (ExV.pe_ex1 PySem.F.excBase_ValueError T.x_NoCounter T.m_NoCounter T.kp_NoCounter (by rfl) (pv 0)) (pa_cons (ExV.pe_ex1 PySem.F.excBase_ValueError T.x_NoSize T.m_NoSize T.kp_NoSize (by rfl) (pv 0)) (pa_cons (ExV.pe_ex1 PySem.F.excBase_ValueError T.x_NoRing T.m_NoRing T.kp_NoRing (by rfl) (pv 0)) (pa_cons (ExV.pe_ex1 PySem.F.excBase_ValueError T.x_Outside T.m_Outside T.kp_Outside (by rfl) (pv 0)) (pa_cons (ExV.pe_ex1 PySem.F.excBase_ValueError T.x_NoSet T.m_NoSet T.kp_NoSet (by rfl) (pv 0)) pa_nil))))))))
      (pss_one (ps_ret (pe_op op_cat (pv 1) (pe_lst (pa_cons (ExV.pe_ex1 PySem.F.excBase_ValueError T.x_TooLong T.m_TooLong T.kp_TooLong (by rfl) (pv 0)) (pa_cons (ExV.pe_ex1 PySem.F.excBase_ValueError T.x_NotDecided T.m_NotDecided T.kp_NotDecided (by rfl) (pv 0)) (pa_cons (ExV.pe_ex1 PySem.F.excBase_ValueError T.x_NoLag T.m_NoLag T.kp_NoLag (by rfl) (pv 0)) (pa_cons (ExV.pe_ex1 PySem.F.excBase_ValueError T.x_NoRow T.m_NoRow T.kp_NoRow (by rfl) (pv 0)) (pa_cons (ExV.pe_ex1 PySem.F.excBase_ValueError T.x_NoName T.m_NoName T.kp_NoName (by rfl) (pv 0)) (pa_cons (ExV.pe_ex1 PySem.F.excBase_ValueError T.x_Nested T.m_Nested T.kp_Nested (by rfl) (pv 0)) pa_nil))))))))))), ?_⟩
    try dsimp only [L2.cxOf, L2.Cx.nox, L2.Cx.wish]
    with_reducible refine Rd.seq (Rd.asg (Rd.lst (Rd.cons (Rd.ex1v (Rd.var (by walk_at "vr") ?_)))))
    intro ev1 Hev1 Sev1 nev1 eev1
    with_reducible refine Rd.cons (Rd.ex1v (Rd.var (by walk_at "vr") ?_))
    intro ev2 Hev2 Sev2 nev2 eev2
    with_reducible refine Rd.cons (Rd.ex1v (Rd.var (by walk_at "vr") ?_))
    intro ev3 Hev3 Sev3 nev3 eev3
    with_reducible refine Rd.cons (Rd.ex1v (Rd.var (by walk_at "vr") ?_))
    intro ev4 Hev4 Sev4 nev4 eev4
    with_reducible refine Rd.cons (Rd.ex1v (Rd.var (by walk_at "vr") ?_))
    intro ev5 Hev5 Sev5 nev5 eev5
    with_reducible refine Rd.cons (Rd.ex1v (Rd.var (by walk_at "vr") ?_))
    intro ev6 Hev6 Sev6 nev6 eev6
    with_reducible refine Rd.nil (Rd.laid (by walk_at "ll") ?_)
    intro p0 np0
    with_reducible refine Rd.name (Rd.ret (Rd.op (Rd.var (by walk_at "vr") (Rd.lst (Rd.cons (Rd.ex1v (Rd.var (by walk_at "vr") ?_)))))))
    intro ev7 Hev7 Sev7 nev7 eev7
    with_reducible refine Rd.cons (Rd.ex1v (Rd.var (by walk_at "vr") ?_))
    intro ev8 Hev8 Sev8 nev8 eev8
    with_reducible refine Rd.cons (Rd.ex1v (Rd.var (by walk_at "vr") ?_))
    intro ev9 Hev9 Sev9 nev9 eev9
    with_reducible refine Rd.cons (Rd.ex1v (Rd.var (by walk_at "vr") ?_))
    intro ev10 Hev10 Sev10 nev10 eev10
    with_reducible refine Rd.cons (Rd.ex1v (Rd.var (by walk_at "vr") ?_))
    intro ev11 Hev11 Sev11 nev11 eev11
    with_reducible refine Rd.cons (Rd.ex1v (Rd.var (by walk_at "vr") ?_))
    intro ev12 Hev12 Sev12 nev12 eev12
    with_reducible refine Rd.nil (Rd.laid (by walk_at "ll") ?_)
    intro p1 np1
    with_reducible refine Rd.catL (by walk_at "hp") (by walk_at "hp") (by walk_at "ll") ?_
    intro c13 nc13
    simp (proj := false) only [List.cons_append, List.nil_append]
    exact k _ _ _ (by walk_at "frm") (by walk_at "nn") (by walk_at "hp") (.cons (ExV.IsErr.same (by walk_at "frm") eev1) (.cons (ExV.IsErr.same (by walk_at "frm") eev2) (.cons (ExV.IsErr.same (by walk_at "frm") eev3) (.cons (ExV.IsErr.same (by walk_at "frm") eev4) (.cons (ExV.IsErr.same (by walk_at "frm") eev5) (.cons (ExV.IsErr.same (by walk_at "frm") eev6) (.cons (ExV.IsErr.same (by walk_at "frm") eev7) (.cons (ExV.IsErr.same (by walk_at "frm") eev8) (.cons (ExV.IsErr.same (by walk_at "frm") eev9) (.cons (ExV.IsErr.same (by walk_at "frm") eev10) (.cons (ExV.IsErr.same (by walk_at "frm") eev11) (.cons (ExV.IsErr.same (by walk_at "frm") eev12) (.nil)))))))))))))
/-! _law_of_parts -/
theorem sc_l_of_parts : FnScope ["_law_parts_here", "_law_found"] ["_law_parts_here"] (defScope s_l_of_parts) := ⟨rfl, rfl, rfl, by decide +kernel, rfl, by decide +kernel, by decide +kernel⟩
abbrev sp_l_of_parts (K : PySem.W.Frag) (A : Adr) : Sp := fun vs H Q _ => ∃ (q : Addr) (v1 v2 v3 v4 v5 v6 : V), vs = [.ref q] ∧ H q = some (.lst [v1, v2, v3, v4, v5, v6]) ∧ ∀ (p : Addr) (l : List V) (H' : Hp), Same H H' → H p = none → H' p = some (.lst l) → Es H' l (cls2 A) → Q (.ref p) H'
theorem ok_l_of_parts (T : Txt w K mg A) : FnOk P w K mg base CX0 3 A.f_l_of_parts A.d_l_of_parts ["_law_parts_here"] (sp_l_of_parts K A) := by
  refine T.F_l_of_parts.ok sc_l_of_parts (fun vs H Q E h => ?_) (fun cdv Ar outer s H vs Q E hr h => ?_)
  · obtain ⟨q, v1, v2, v3, v4, v5, v6, rfl, hq, k⟩ := h
    rfl
  · obtain ⟨q, v1, v2, v3, v4, v5, v6, rfl, hq, k⟩ := h
    have hu := hu_of hr
    have t_xm_NoForm := T.xm_NoForm
    have t_xm_NoCounter := T.xm_NoCounter
    have t_xm_NoSize := T.xm_NoSize
    have t_xm_NoRing := T.xm_NoRing
    have t_xm_Outside := T.xm_Outside
    have t_xm_NoSet := T.xm_NoSet
    have t_xm_TooLong := T.xm_TooLong
    have t_xm_NotDecided := T.xm_NotDecided
    have t_xm_NoLag := T.xm_NoLag
    have t_xm_NoRow := T.xm_NoRow
    have t_xm_NoName := T.xm_NoName
    have t_xm_Nested := T.xm_Nested
    have t_xm_NoScheme := T.xm_NoScheme
    have t_xm_NoRun := T.xm_NoRun
    have t_xm_NotRight := T.xm_NotRight
    have t_xm_NoHands := T.xm_NoHands
    have t_xm_NoSteps := T.xm_NoSteps
    have t_xm_NoChange := T.xm_NoChange
    refine ⟨_, (pss_cons (ps_set (i := 1) sc_l_of_parts.nd rfl (Or.inl rfl) (pe_lst (pa_cons (ExV.pe_mkV T.ox_NoScheme T.oi_NoScheme T.ot_NoScheme (ok_NoSchemeu__initu_ T) (hr.mono (by decide)) T.b_NoSchemeu__initu_ pass0 (by rfl) T.m_NoScheme (pa_cons (pe_ix (Rd.ixLK rfl) (pv 0) pe_int (fun _ _ => rfl)) pa_nil)) (pa_cons (ExV.pe_mkV T.ox_NoRun T.oi_NoRun T.ot_NoRun (ok_NoRunu__initu_ T) (hr.mono (by decide)) T.b_NoRunu__initu_ pass0 (by rfl) T.m_NoRun (pa_cons (pe_ix (Rd.ixLK rfl) (pv 0) pe_int (fun _ _ => rfl)) pa_nil)) (pa_cons (ExV.pe_mkV T.ox_NotRight T.oi_NotRight T.ot_NotRight (ok_NotRightu__initu_ T) (hr.mono (by decide)) T.b_NotRightu__initu_ pass0 (by rfl) T.m_NotRight (pa_cons (pe_ix (Rd.ixLK rfl) (pv 0) pe_int (fun _ _ => rfl)) pa_nil)) (pa_cons (ExV.pe_mkV T.ox_NoHands T.oi_NoHands T.ot_NoHands (ok_NoHandsu__initu_ T) (hr.mono (by decide)) T.b_NoHandsu__initu_ pass0 (by rfl) T.m_NoHands (pa_cons (pe_ix (Rd.ixLK rfl) (pv 0) pe_int (fun _ _ => rfl)) pa_nil)) pa_nil))))))
      (pss_one (ps_ret (pe_op op_cat (pv 1) (pe_lst (pa_cons (ExV.pe_mkV T.ox_NoSteps T.oi_NoSteps T.ot_NoSteps (ok_NoStepsu__initu_ T) (hr.mono (by decide)) T.b_NoStepsu__initu_ pass0 (by rfl) T.m_NoSteps (pa_cons (pe_ix (Rd.ixLK rfl) (pv 0) pe_int (fun _ _ => rfl)) pa_nil)) (pa_cons (ExV.pe_mkV T.ox_NoChange T.oi_NoChange T.ot_NoChange (ok_NoChangeu__initu_ T) (hr.mono (by decide)) T.b_NoChangeu__initu_ pass0 (by rfl) T.m_NoChange (pa_cons (pe_ix (Rd.ixLK rfl) (pv 0) pe_int (fun _ _ => rfl)) pa_nil)) pa_nil))))))), ?_⟩
    try dsimp only [L2.cxOf, L2.Cx.nox, L2.Cx.wish]
    with_reducible refine Rd.seq (Rd.asg (Rd.lst (Rd.cons (Rd.mkV (Rd.cons (Rd.op (Rd.var (by walk_at "vr") (Rd.c (Rd.ixL (by walk_at "hpl") (by walk_at "vr") (Rd.nil ?_))))))))))
    refine ⟨(by simp), fun ev1 nev1 => ?_⟩
    refine ⟨_, _, rfl, L2.upd_same, fun d1 H1 F1 ha1 hd1 => ?_⟩
    refine ⟨rfl, ?_⟩
    with_reducible refine Rd.cons (Rd.mkV (Rd.cons (Rd.op (Rd.var (by walk_at "vr") (Rd.c (Rd.ixL (by walk_at "hpl") (by walk_at "vr") (Rd.nil ?_)))))))
    refine ⟨(by simp), fun ev2 nev2 => ?_⟩
    refine ⟨_, _, rfl, L2.upd_same, fun d2 H2 F2 ha2 hd2 => ?_⟩
    refine ⟨rfl, ?_⟩
    with_reducible refine Rd.cons (Rd.mkV (Rd.cons (Rd.op (Rd.var (by walk_at "vr") (Rd.c (Rd.ixL (by walk_at "hpl") (by walk_at "vr") (Rd.nil ?_)))))))
    refine ⟨(by simp), fun ev3 nev3 => ?_⟩
    refine ⟨_, _, rfl, L2.upd_same, fun d3 H3 F3 ha3 hd3 => ?_⟩
    refine ⟨rfl, ?_⟩
    with_reducible refine Rd.cons (Rd.mkV (Rd.cons (Rd.op (Rd.var (by walk_at "vr") (Rd.c (Rd.ixL (by walk_at "hpl") (by walk_at "vr") (Rd.nil ?_)))))))
    refine ⟨(by simp), fun ev4 nev4 => ?_⟩
    refine ⟨_, _, rfl, L2.upd_same, fun d4 H4 F4 ha4 hd4 => ?_⟩
    refine ⟨rfl, ?_⟩
    with_reducible refine Rd.nil (Rd.laid (by walk_at "ll") ?_)
    intro p0 np0
    with_reducible refine Rd.name (Rd.ret (Rd.op (Rd.var (by walk_at "vr") (Rd.lst (Rd.cons (Rd.mkV (Rd.cons (Rd.op (Rd.var (by walk_at "vr") (Rd.c (Rd.ixL (by walk_at "hpl") (by walk_at "vr") ?_)))))))))))
    with_reducible refine Rd.nil ?_
    refine ⟨(by simp), fun ev5 nev5 => ?_⟩
    refine ⟨_, _, rfl, L2.upd_same, fun d5 H5 F5 ha5 hd5 => ?_⟩
    refine ⟨rfl, ?_⟩
    with_reducible refine Rd.cons (Rd.mkV (Rd.cons (Rd.op (Rd.var (by walk_at "vr") (Rd.c (Rd.ixL (by walk_at "hpl") (by walk_at "vr") (Rd.nil ?_)))))))
    refine ⟨(by simp), fun ev6 nev6 => ?_⟩
    refine ⟨_, _, rfl, L2.upd_same, fun d6 H6 F6 ha6 hd6 => ?_⟩
    refine ⟨rfl, ?_⟩
    with_reducible refine Rd.nil (Rd.laid (by walk_at "ll") ?_)
    intro p1 np1
    with_reducible refine Rd.catL (by walk_at "hp") (by walk_at "hp") (by walk_at "ll") ?_
    intro c7 nc7
    simp (proj := false) only [List.cons_append, List.nil_append]
    exact k _ _ _ (by walk_at "frm") (by walk_at "nn") (by walk_at "hp") (.cons (.inr ⟨_, _, (by walk_at "hp"), (by walk_at "hp")⟩) (.cons (.inr ⟨_, _, (by walk_at "hp"), (by walk_at "hp")⟩) (.cons (.inr ⟨_, _, (by walk_at "hp"), (by walk_at "hp")⟩) (.cons (.inr ⟨_, _, (by walk_at "hp"), (by walk_at "hp")⟩) (.cons (.inr ⟨_, _, (by walk_at "hp"), (by walk_at "hp")⟩) (.cons (.inr ⟨_, _, (by walk_at "hp"), (by walk_at "hp")⟩) (.nil)))))))
/-! _law_flags -/
theorem sc_l_flags : FnScope ["_law_e", "_law_found"] ["_law_e"] (defScope s_l_flags) := ⟨rfl, rfl, rfl, by decide +kernel, rfl, by decide +kernel, by decide +kernel⟩
abbrev sp_l_flags (K : PySem.W.Frag) (A : Adr) : Sp := fun vs H Q _ => ∃ (a D : Addr) (j : Nat), vs = [.ref a] ∧ (clsA A)[j]? = some D ∧ ExV.IsErr H a D ∧ ∀ (p : Addr) (H' : Hp), Same H H' → H p = none → H' p = some (.lst ((flagsL j).map V.bl)) → Q (.ref p) H'
theorem ok_l_flags (T : Txt w K mg A) : FnOk P w K mg base CX0 1 A.f_l_flags A.d_l_flags ["_law_e"] (sp_l_flags K A) := by
  refine T.F_l_flags.ok sc_l_flags (fun vs H Q E h => ?_) (fun cdv Ar outer s H vs Q E hr h => ?_)
  · obtain ⟨a, D, j, rfl, hD, he, k⟩ := h
    rfl
  · obtain ⟨a, D, j, rfl, hD, he, k⟩ := h
    have hu := hu_of hr
    have t_xm_NoForm := T.xm_NoForm
    have t_xm_NoCounter := T.xm_NoCounter
    have t_xm_NoSize := T.xm_NoSize
    have t_xm_NoRing := T.xm_NoRing
    have t_xm_Outside := T.xm_Outside
    have t_xm_NoSet := T.xm_NoSet
    have t_xm_TooLong := T.xm_TooLong
    have t_xm_NotDecided := T.xm_NotDecided
    have t_xm_NoLag := T.xm_NoLag
    have t_xm_NoRow := T.xm_NoRow
    have t_xm_NoName := T.xm_NoName
    have t_xm_Nested := T.xm_Nested
    have t_xm_NoScheme := T.xm_NoScheme
    have t_xm_NoRun := T.xm_NoRun
    have t_xm_NotRight := T.xm_NotRight
    have t_xm_NoHands := T.xm_NoHands
    have t_xm_NoSteps := T.xm_NoSteps
    have t_xm_NoChange := T.xm_NoChange
    obtain ⟨ec, kr, kv, k0, k1, k2, k3, k4, k5, k6, k7, k8, k9, k10, k11, k12, k13, k14, k15, k16, k17⟩ := kits T hD
    refine ⟨_, (pss_cons (ps_set (i := 1) sc_l_flags.nd rfl (Or.inl rfl) (pe_lst (pa_cons (pe_callB (ExV.call_isV (K := K) rfl) (by rfl) T.n_isinstance (by decide +kernel) (pa_cons (pv 0) (pa_cons (pe_glob (v := .ref A.c_NoForm) rfl T.m_NoForm rfl) pa_nil))) (pa_cons (pe_callB (ExV.call_isV (K := K) rfl) (by rfl) T.n_isinstance (by decide +kernel) (pa_cons (pv 0) (pa_cons (pe_glob (v := .ref A.c_NoCounter) rfl T.m_NoCounter rfl) pa_nil))) (pa_cons (pe_callB (ExV.call_isV (K := K) rfl) (by rfl) T.n_isinstance (by decide +kernel) (pa_cons (pv 0) (pa_cons (pe_glob (v := .ref A.c_NoSize) rfl T.m_NoSize rfl) pa_nil))) (pa_cons (pe_callB (ExV.call_isV (K := K) rfl) (by rfl) T.n_isinstance (by decide +kernel) (pa_cons (pv 0) (pa_cons (pe_glob (v := .ref A.c_NoRing) rfl T.m_NoRing rfl) pa_nil))) pa_nil))))))
      (pss_cons (ps_set (i := 1) sc_l_flags.nd rfl (Or.inl rfl) (pe_op op_cat (pv 1) (pe_lst (pa_cons (pe_callB (ExV.call_isV (K := K) rfl) (by rfl) T.n_isinstance (by decide +kernel) (pa_cons (pv 0) (pa_cons (pe_glob (v := .ref A.c_Outside) rfl T.m_Outside rfl) pa_nil))) (pa_cons (pe_callB (ExV.call_isV (K := K) rfl) (by rfl) T.n_isinstance (by decide +kernel) (pa_cons (pv 0) (pa_cons (pe_glob (v := .ref A.c_NoSet) rfl T.m_NoSet rfl) pa_nil))) (pa_cons (pe_callB (ExV.call_isV (K := K) rfl) (by rfl) T.n_isinstance (by decide +kernel) (pa_cons (pv 0) (pa_cons (pe_glob (v := .ref A.c_TooLong) rfl T.m_TooLong rfl) pa_nil))) (pa_cons (pe_callB (ExV.call_isV (K := K) rfl) (by rfl) T.n_isinstance (by decide +kernel) (pa_cons (pv 0) (pa_cons (pe_glob (v := .ref A.c_NotDecided) rfl T.m_NotDecided rfl) pa_nil))) pa_nil)))))))
      (pss_cons (ps_set (i := 1) sc_l_flags.nd rfl (Or.inl rfl) (pe_op op_cat (pv 1) (pe_lst (pa_cons (pe_callB (ExV.call_isV (K := K) rfl) (by rfl) T.n_isinstance (by decide +kernel) (pa_cons (pv 0) (pa_cons (pe_glob (v := .ref A.c_NoLag) rfl T.m_NoLag rfl) pa_nil))) (pa_cons (pe_callB (ExV.call_isV (K := K) rfl) (by rfl) T.n_isinstance (by decide +kernel) (pa_cons (pv 0) (pa_cons (pe_glob (v := .ref A.c_NoRow) rfl T.m_NoRow rfl) pa_nil))) (pa_cons (pe_callB (ExV.call_isV (K := K) rfl) (by rfl) T.n_isinstance (by decide +kernel) (pa_cons (pv 0) (pa_cons (pe_glob (v := .ref A.c_NoName) rfl T.m_NoName rfl) pa_nil))) (pa_cons (pe_callB (ExV.call_isV (K := K) rfl) (by rfl) T.n_isinstance (by decide +kernel) (pa_cons (pv 0) (pa_cons (pe_glob (v := .ref A.c_Nested) rfl T.m_Nested rfl) pa_nil))) pa_nil)))))))
      (pss_cons (ps_set (i := 1) sc_l_flags.nd rfl (Or.inl rfl) (pe_op op_cat (pv 1) (pe_lst (pa_cons (pe_callB (ExV.call_isV (K := K) rfl) (by rfl) T.n_isinstance (by decide +kernel) (pa_cons (pv 0) (pa_cons (pe_glob (v := .ref A.c_NoScheme) rfl T.m_NoScheme rfl) pa_nil))) (pa_cons (pe_callB (ExV.call_isV (K := K) rfl) (by rfl) T.n_isinstance (by decide +kernel) (pa_cons (pv 0) (pa_cons (pe_glob (v := .ref A.c_NoRun) rfl T.m_NoRun rfl) pa_nil))) (pa_cons (pe_callB (ExV.call_isV (K := K) rfl) (by rfl) T.n_isinstance (by decide +kernel) (pa_cons (pv 0) (pa_cons (pe_glob (v := .ref A.c_NotRight) rfl T.m_NotRight rfl) pa_nil))) (pa_cons (pe_callB (ExV.call_isV (K := K) rfl) (by rfl) T.n_isinstance (by decide +kernel) (pa_cons (pv 0) (pa_cons (pe_glob (v := .ref A.c_NoHands) rfl T.m_NoHands rfl) pa_nil))) pa_nil)))))))
      (pss_one (ps_ret (pe_op op_cat (pv 1) (pe_lst (pa_cons (pe_callB (ExV.call_isV (K := K) rfl) (by rfl) T.n_isinstance (by decide +kernel) (pa_cons (pv 0) (pa_cons (pe_glob (v := .ref A.c_NoSteps) rfl T.m_NoSteps rfl) pa_nil))) (pa_cons (pe_callB (ExV.call_isV (K := K) rfl) (by rfl) T.n_isinstance (by decide +kernel) (pa_cons (pv 0) (pa_cons (pe_glob (v := .ref A.c_NoChange) rfl T.m_NoChange rfl) pa_nil))) (pa_cons (pe_callB (ExV.call_isV (K := K) rfl) (by rfl) T.n_isinstance (by decide +kernel) (pa_cons (pv 0) (pa_cons (pe_glob (v := .ref A.c_RingError) rfl T.m_RingError rfl) pa_nil))) (pa_cons (pe_callB (ExV.call_isV (K := K) rfl) (by rfl) T.n_isinstance (by decide +kernel) (pa_cons (pv 0) (pa_cons (pe_bltn (v := .ty "ValueError") (u := .type "ValueError") (by rfl) T.n_ValueError (by decide +kernel) rfl) pa_nil))) pa_nil)))))))))))), ?_⟩
    try dsimp only [L2.cxOf, L2.Cx.nox, L2.Cx.wish]
    with_reducible refine Rd.seq (Rd.asg (Rd.lst (Rd.cons (Rd.cB (Rd.cons (Rd.var (by walk_at "vr") (Rd.cons (Rd.c (Rd.nil ?_)))))))))
    refine ⟨_, _, _, _, _, rfl, (ExV.IsErr.same (by walk_at "frm") he), ec, (by walk_at "clsv"), (by walk_at "kit"), ?_⟩
    with_reducible refine Rd.cons (Rd.cB (Rd.cons (Rd.var (by walk_at "vr") (Rd.cons (Rd.c (Rd.nil ?_))))))
    refine ⟨_, _, _, _, _, rfl, (ExV.IsErr.same (by walk_at "frm") he), ec, (by walk_at "clsv"), (by walk_at "kit"), ?_⟩
    with_reducible refine Rd.cons (Rd.cB (Rd.cons (Rd.var (by walk_at "vr") (Rd.cons (Rd.c (Rd.nil ?_))))))
    refine ⟨_, _, _, _, _, rfl, (ExV.IsErr.same (by walk_at "frm") he), ec, (by walk_at "clsv"), (by walk_at "kit"), ?_⟩
    with_reducible refine Rd.cons (Rd.cB (Rd.cons (Rd.var (by walk_at "vr") (Rd.cons (Rd.c (Rd.nil ?_))))))
    refine ⟨_, _, _, _, _, rfl, (ExV.IsErr.same (by walk_at "frm") he), ec, (by walk_at "clsv"), (by walk_at "kit"), ?_⟩
    with_reducible refine Rd.nil (Rd.laid (by walk_at "ll") ?_)
    intro p0 np0
    with_reducible refine Rd.name (Rd.seq (Rd.asg (Rd.op (Rd.var (by walk_at "vr") (Rd.lst (Rd.cons (Rd.cB (Rd.cons (Rd.var (by walk_at "vr") (Rd.cons (Rd.c ?_)))))))))))
    with_reducible refine Rd.nil ?_
    refine ⟨_, _, _, _, _, rfl, (ExV.IsErr.same (by walk_at "frm") he), ec, (by walk_at "clsv"), (by walk_at "kit"), ?_⟩
    with_reducible refine Rd.cons (Rd.cB (Rd.cons (Rd.var (by walk_at "vr") (Rd.cons (Rd.c (Rd.nil ?_))))))
    refine ⟨_, _, _, _, _, rfl, (ExV.IsErr.same (by walk_at "frm") he), ec, (by walk_at "clsv"), (by walk_at "kit"), ?_⟩
    with_reducible refine Rd.cons (Rd.cB (Rd.cons (Rd.var (by walk_at "vr") (Rd.cons (Rd.c (Rd.nil ?_))))))
    refine ⟨_, _, _, _, _, rfl, (ExV.IsErr.same (by walk_at "frm") he), ec, (by walk_at "clsv"), (by walk_at "kit"), ?_⟩
    with_reducible refine Rd.cons (Rd.cB (Rd.cons (Rd.var (by walk_at "vr") (Rd.cons (Rd.c (Rd.nil ?_))))))
    refine ⟨_, _, _, _, _, rfl, (ExV.IsErr.same (by walk_at "frm") he), ec, (by walk_at "clsv"), (by walk_at "kit"), ?_⟩
    with_reducible refine Rd.nil (Rd.laid (by walk_at "ll") ?_)
    intro p1 np1
    with_reducible refine Rd.catL (by walk_at "hp") (by walk_at "hp") (by walk_at "ll") ?_
    intro c1 nc1
    simp (proj := false) only [List.cons_append, List.nil_append]
    with_reducible refine Rd.name (Rd.seq (Rd.asg (Rd.op (Rd.var (by walk_at "vr") (Rd.lst (Rd.cons (Rd.cB (Rd.cons (Rd.var (by walk_at "vr") (Rd.cons (Rd.c ?_)))))))))))
    with_reducible refine Rd.nil ?_
    refine ⟨_, _, _, _, _, rfl, (ExV.IsErr.same (by walk_at "frm") he), ec, (by walk_at "clsv"), (by walk_at "kit"), ?_⟩
    with_reducible refine Rd.cons (Rd.cB (Rd.cons (Rd.var (by walk_at "vr") (Rd.cons (Rd.c (Rd.nil ?_))))))
    refine ⟨_, _, _, _, _, rfl, (ExV.IsErr.same (by walk_at "frm") he), ec, (by walk_at "clsv"), (by walk_at "kit"), ?_⟩
    with_reducible refine Rd.cons (Rd.cB (Rd.cons (Rd.var (by walk_at "vr") (Rd.cons (Rd.c (Rd.nil ?_))))))
    refine ⟨_, _, _, _, _, rfl, (ExV.IsErr.same (by walk_at "frm") he), ec, (by walk_at "clsv"), (by walk_at "kit"), ?_⟩
    with_reducible refine Rd.cons (Rd.cB (Rd.cons (Rd.var (by walk_at "vr") (Rd.cons (Rd.c (Rd.nil ?_))))))
    refine ⟨_, _, _, _, _, rfl, (ExV.IsErr.same (by walk_at "frm") he), ec, (by walk_at "clsv"), (by walk_at "kit"), ?_⟩
    with_reducible refine Rd.nil (Rd.laid (by walk_at "ll") ?_)
    intro p2 np2
    with_reducible refine Rd.catL (by walk_at "hp") (by walk_at "hp") (by walk_at "ll") ?_
    intro c2 nc2
    simp (proj := false) only [List.cons_append, List.nil_append]
    with_reducible refine Rd.name (Rd.seq (Rd.asg (Rd.op (Rd.var (by walk_at "vr") (Rd.lst (Rd.cons (Rd.cB (Rd.cons (Rd.var (by walk_at "vr") (Rd.cons (Rd.c ?_)))))))))))
    with_reducible refine Rd.nil ?_
    refine ⟨_, _, _, _, _, rfl, (ExV.IsErr.same (by walk_at "frm") he), ec, (by walk_at "clsv"), (by walk_at "kit"), ?_⟩
    with_reducible refine Rd.cons (Rd.cB (Rd.cons (Rd.var (by walk_at "vr") (Rd.cons (Rd.c (Rd.nil ?_))))))
    refine ⟨_, _, _, _, _, rfl, (ExV.IsErr.same (by walk_at "frm") he), ec, (by walk_at "clsv"), (by walk_at "kit"), ?_⟩
    with_reducible refine Rd.cons (Rd.cB (Rd.cons (Rd.var (by walk_at "vr") (Rd.cons (Rd.c (Rd.nil ?_))))))
    refine ⟨_, _, _, _, _, rfl, (ExV.IsErr.same (by walk_at "frm") he), ec, (by walk_at "clsv"), (by walk_at "kit"), ?_⟩
    with_reducible refine Rd.cons (Rd.cB (Rd.cons (Rd.var (by walk_at "vr") (Rd.cons (Rd.c (Rd.nil ?_))))))
    refine ⟨_, _, _, _, _, rfl, (ExV.IsErr.same (by walk_at "frm") he), ec, (by walk_at "clsv"), (by walk_at "kit"), ?_⟩
    with_reducible refine Rd.nil (Rd.laid (by walk_at "ll") ?_)
    intro p3 np3
    with_reducible refine Rd.catL (by walk_at "hp") (by walk_at "hp") (by walk_at "ll") ?_
    intro c3 nc3
    simp (proj := false) only [List.cons_append, List.nil_append]
    with_reducible refine Rd.name (Rd.ret (Rd.op (Rd.var (by walk_at "vr") (Rd.lst (Rd.cons (Rd.cB (Rd.cons (Rd.var (by walk_at "vr") (Rd.cons (Rd.c (Rd.nil ?_)))))))))))
    refine ⟨_, _, _, _, _, rfl, (ExV.IsErr.same (by walk_at "frm") he), ec, (by walk_at "clsv"), (by walk_at "kit"), ?_⟩
    with_reducible refine Rd.cons (Rd.cB (Rd.cons (Rd.var (by walk_at "vr") (Rd.cons (Rd.c (Rd.nil ?_))))))
    refine ⟨_, _, _, _, _, rfl, (ExV.IsErr.same (by walk_at "frm") he), ec, (by walk_at "clsv"), (by walk_at "kit"), ?_⟩
    with_reducible refine Rd.cons (Rd.cB (Rd.cons (Rd.var (by walk_at "vr") (Rd.cons (Rd.c (Rd.nil ?_))))))
    refine ⟨_, _, _, _, _, rfl, (ExV.IsErr.same (by walk_at "frm") he), ec, (by walk_at "clsv"), (by walk_at "kit"), ?_⟩
    with_reducible refine Rd.cons (Rd.cB (Rd.cons (Rd.var (by walk_at "vr") (Rd.cons (Rd.c (Rd.nil ?_))))))
    refine ⟨_, _, _, _, _, rfl, (ExV.IsErr.same (by walk_at "frm") he), ec, (by walk_at "clsv"), (by walk_at "kit"), ?_⟩
    with_reducible refine Rd.nil (Rd.laid (by walk_at "ll") ?_)
    intro p4 np4
    with_reducible refine Rd.catL (by walk_at "hp") (by walk_at "hp") (by walk_at "ll") ?_
    intro c4 nc4
    simp (proj := false) only [List.cons_append, List.nil_append]
    exact k _ _ (by walk_at "frm") (by walk_at "nn") (show _ = some (HO.lst [V.bl (decide (((0 : Nat) : Int) = (j : Int))), V.bl (decide (((1 : Nat) : Int) = (j : Int))), V.bl (decide (((2 : Nat) : Int) = (j : Int))), V.bl (decide (((3 : Nat) : Int) = (j : Int))), V.bl (decide (((4 : Nat) : Int) = (j : Int))), V.bl (decide (((5 : Nat) : Int) = (j : Int))), V.bl (decide (((6 : Nat) : Int) = (j : Int))), V.bl (decide (((7 : Nat) : Int) = (j : Int))), V.bl (decide (((8 : Nat) : Int) = (j : Int))), V.bl (decide (((9 : Nat) : Int) = (j : Int))), V.bl (decide (((10 : Nat) : Int) = (j : Int))), V.bl (decide (((11 : Nat) : Int) = (j : Int))), V.bl (decide (((12 : Nat) : Int) = (j : Int))), V.bl (decide (((13 : Nat) : Int) = (j : Int))), V.bl (decide (((14 : Nat) : Int) = (j : Int))), V.bl (decide (((15 : Nat) : Int) = (j : Int))), V.bl (decide (((16 : Nat) : Int) = (j : Int))), V.bl (decide (((17 : Nat) : Int) = (j : Int))), .bl true, .bl true]) from (by walk_at "hp"))
/-! _law_kept -/
theorem sc_l_kept : FnScope ["_law_parts_here", "_law_told", "_law_one"] ["_law_parts_here"] (defScope s_l_kept) := ⟨rfl, rfl, rfl, by decide +kernel, rfl, by decide +kernel, by decide +kernel⟩
abbrev sp_l_kept (K : PySem.W.Frag) (A : Adr) : Sp := fun vs H Q _ => ∃ (q : Addr) (v1 v2 v3 v4 v5 v6 : V) (r1 r2 r3 r4 r5 r6 : Str), vs = [.ref q] ∧ H q = some (.lst [v1, v2, v3, v4, v5, v6]) ∧ RV v1 r1 ∧ RV v2 r2 ∧ RV v3 r3 ∧ RV v4 r4 ∧ RV v5 r5 ∧ RV v6 r6 ∧ ∀ H', Same H H' → Q (.bl true) H'
theorem ok_l_kept (T : Txt w K mg A) : FnOk P w K mg base CX0 3 A.f_l_kept A.d_l_kept ["_law_parts_here"] (sp_l_kept K A) := by
  refine T.F_l_kept.ok sc_l_kept (fun vs H Q E h => ?_) (fun cdv Ar outer s H vs Q E hr h => ?_)
  · obtain ⟨q, v1, v2, v3, v4, v5, v6, r1, r2, r3, r4, r5, r6, rfl, hq, rv1, rv2, rv3, rv4, rv5, rv6, k⟩ := h
    rfl
  · obtain ⟨q, v1, v2, v3, v4, v5, v6, r1, r2, r3, r4, r5, r6, rfl, hq, rv1, rv2, rv3, rv4, rv5, rv6, k⟩ := h
    have hu := hu_of hr
    have t_xm_NoForm := T.xm_NoForm
    have t_xm_NoCounter := T.xm_NoCounter
    have t_xm_NoSize := T.xm_NoSize
    have t_xm_NoRing := T.xm_NoRing
    have t_xm_Outside := T.xm_Outside
    have t_xm_NoSet := T.xm_NoSet
    have t_xm_TooLong := T.xm_TooLong
    have t_xm_NotDecided := T.xm_NotDecided
    have t_xm_NoLag := T.xm_NoLag
    have t_xm_NoRow := T.xm_NoRow
    have t_xm_NoName := T.xm_NoName
    have t_xm_Nested := T.xm_Nested
    have t_xm_NoScheme := T.xm_NoScheme
    have t_xm_NoRun := T.xm_NoRun
    have t_xm_NotRight := T.xm_NotRight
    have t_xm_NoHands := T.xm_NoHands
    have t_xm_NoSteps := T.xm_NoSteps
    have t_xm_NoChange := T.xm_NoChange
    refine ⟨_, (pss_cons (ps_set (i := 1) sc_l_kept.nd rfl (Or.inl rfl) (pe_lst (pa_cons (ExV.pe_fldV T.xf_NoScheme T.on_NoScheme (ExV.pe_mkV T.ox_NoScheme T.oi_NoScheme T.ot_NoScheme (ok_NoSchemeu__initu_ T) (hr.mono (by decide)) T.b_NoSchemeu__initu_ pass0 (by rfl) T.m_NoScheme (pa_cons (pe_ix (Rd.ixLK rfl) (pv 0) pe_int (fun _ _ => rfl)) pa_nil))) (pa_cons (ExV.pe_fldV T.xf_NoRun T.on_NoRun (ExV.pe_mkV T.ox_NoRun T.oi_NoRun T.ot_NoRun (ok_NoRunu__initu_ T) (hr.mono (by decide)) T.b_NoRunu__initu_ pass0 (by rfl) T.m_NoRun (pa_cons (pe_ix (Rd.ixLK rfl) (pv 0) pe_int (fun _ _ => rfl)) pa_nil))) (pa_cons (ExV.pe_fldV T.xf_NotRight T.on_NotRight (ExV.pe_mkV T.ox_NotRight T.oi_NotRight T.ot_NotRight (ok_NotRightu__initu_ T) (hr.mono (by decide)) T.b_NotRightu__initu_ pass0 (by rfl) T.m_NotRight (pa_cons (pe_ix (Rd.ixLK rfl) (pv 0) pe_int (fun _ _ => rfl)) pa_nil))) (pa_cons (ExV.pe_fldV T.xf_NoHands T.on_NoHands (ExV.pe_mkV T.ox_NoHands T.oi_NoHands T.ot_NoHands (ok_NoHandsu__initu_ T) (hr.mono (by decide)) T.b_NoHandsu__initu_ pass0 (by rfl) T.m_NoHands (pa_cons (pe_ix (Rd.ixLK rfl) (pv 0) pe_int (fun _ _ => rfl)) pa_nil))) pa_nil))))))
      (pss_cons (ps_set (i := 1) sc_l_kept.nd rfl (Or.inl rfl) (pe_op op_cat (pv 1) (pe_lst (pa_cons (ExV.pe_fldV T.xf_NoSteps T.on_NoSteps (ExV.pe_mkV T.ox_NoSteps T.oi_NoSteps T.ot_NoSteps (ok_NoStepsu__initu_ T) (hr.mono (by decide)) T.b_NoStepsu__initu_ pass0 (by rfl) T.m_NoSteps (pa_cons (pe_ix (Rd.ixLK rfl) (pv 0) pe_int (fun _ _ => rfl)) pa_nil))) (pa_cons (ExV.pe_fldV T.xf_NoChange T.on_NoChange (ExV.pe_mkV T.ox_NoChange T.oi_NoChange T.ot_NoChange (ok_NoChangeu__initu_ T) (hr.mono (by decide)) T.b_NoChangeu__initu_ pass0 (by rfl) T.m_NoChange (pa_cons (pe_ix (Rd.ixLK rfl) (pv 0) pe_int (fun _ _ => rfl)) pa_nil))) pa_nil)))))
      (pss_one (ps_ret (pe_cmpR (op_eqD hr.units) (pe_lc (own := [("_law_one", 2)]) (g := gName 2) rfl sc_l_kept.nd (pi_list (pv 1)) (blkOk_by (own := [("_law_one", 2)]) (N := ["_law_parts_here", "_law_told", "_law_one"]) (sc := defScope s_l_kept) (by decide +kernel)) (fun _ _ _ _ _ => (pg_name (i := 2) sc_l_kept.nd rfl (Or.inl rfl))) (fun _ _ _ _ _ => pts_nil) (fun _ _ _ _ _ => (pe_callB ExV.call_rpr (by rfl) T.n_repr (by decide +kernel) (pa_cons (pv 2) pa_nil)))) (pe_lc (own := [("_law_one", 2)]) (g := gName 2) rfl sc_l_kept.nd (pi_list (pv 0)) (blkOk_by (own := [("_law_one", 2)]) (N := ["_law_parts_here", "_law_told", "_law_one"]) (sc := defScope s_l_kept) (by decide +kernel)) (fun _ _ _ _ _ => (pg_name (i := 2) sc_l_kept.nd rfl (Or.inl rfl))) (fun _ _ _ _ _ => pts_nil) (fun _ _ _ _ _ => (pe_callB ExV.call_rpr (by rfl) T.n_repr (by decide +kernel) (pa_cons (pv 2) pa_nil)))) (nomark _)))))), ?_⟩
    try dsimp only [L2.cxOf, L2.Cx.nox, L2.Cx.wish]
    with_reducible refine Rd.seq (Rd.asg (Rd.lst (Rd.cons (Rd.fldV (Rd.mkV (Rd.cons (Rd.op (Rd.var (by walk_at "vr") (Rd.c (Rd.ixL (by walk_at "hpl") (by walk_at "vr") (Rd.nil ?_)))))))))))
    refine ⟨(by simp), fun ev1 nev1 => ?_⟩
    refine ⟨_, _, rfl, L2.upd_same, fun d1 H1 F1 ha1 hd1 => ?_⟩
    refine ⟨rfl, ?_⟩
    refine ⟨_, _, _, _, rfl, (by walk_at "hp"), (by walk_at "hp"), rfl, ?_⟩
    with_reducible refine Rd.cons (Rd.fldV (Rd.mkV (Rd.cons (Rd.op (Rd.var (by walk_at "vr") (Rd.c (Rd.ixL (by walk_at "hpl") (by walk_at "vr") (Rd.nil ?_))))))))
    refine ⟨(by simp), fun ev2 nev2 => ?_⟩
    refine ⟨_, _, rfl, L2.upd_same, fun d2 H2 F2 ha2 hd2 => ?_⟩
    refine ⟨rfl, ?_⟩
    refine ⟨_, _, _, _, rfl, (by walk_at "hp"), (by walk_at "hp"), rfl, ?_⟩
    with_reducible refine Rd.cons (Rd.fldV (Rd.mkV (Rd.cons (Rd.op (Rd.var (by walk_at "vr") (Rd.c (Rd.ixL (by walk_at "hpl") (by walk_at "vr") (Rd.nil ?_))))))))
    refine ⟨(by simp), fun ev3 nev3 => ?_⟩
    refine ⟨_, _, rfl, L2.upd_same, fun d3 H3 F3 ha3 hd3 => ?_⟩
    refine ⟨rfl, ?_⟩
    refine ⟨_, _, _, _, rfl, (by walk_at "hp"), (by walk_at "hp"), rfl, ?_⟩
    with_reducible refine Rd.cons (Rd.fldV (Rd.mkV (Rd.cons (Rd.op (Rd.var (by walk_at "vr") (Rd.c (Rd.ixL (by walk_at "hpl") (by walk_at "vr") (Rd.nil ?_))))))))
    refine ⟨(by simp), fun ev4 nev4 => ?_⟩
    refine ⟨_, _, rfl, L2.upd_same, fun d4 H4 F4 ha4 hd4 => ?_⟩
    refine ⟨rfl, ?_⟩
    refine ⟨_, _, _, _, rfl, (by walk_at "hp"), (by walk_at "hp"), rfl, ?_⟩
    with_reducible refine Rd.nil (Rd.laid (by walk_at "ll") ?_)
    intro p0 np0
    with_reducible refine Rd.name (Rd.seq (Rd.asg (Rd.op (Rd.var (by walk_at "vr") (Rd.lst (Rd.cons (Rd.fldV (Rd.mkV (Rd.cons (Rd.op (Rd.var (by walk_at "vr") ?_)))))))))))
    with_reducible refine Rd.c (Rd.ixL (by walk_at "hpl") (by walk_at "vr") (Rd.nil ?_))
    refine ⟨(by simp), fun ev5 nev5 => ?_⟩
    refine ⟨_, _, rfl, L2.upd_same, fun d5 H5 F5 ha5 hd5 => ?_⟩
    refine ⟨rfl, ?_⟩
    refine ⟨_, _, _, _, rfl, (by walk_at "hp"), (by walk_at "hp"), rfl, ?_⟩
    with_reducible refine Rd.cons (Rd.fldV (Rd.mkV (Rd.cons (Rd.op (Rd.var (by walk_at "vr") (Rd.c (Rd.ixL (by walk_at "hpl") (by walk_at "vr") (Rd.nil ?_))))))))
    refine ⟨(by simp), fun ev6 nev6 => ?_⟩
    refine ⟨_, _, rfl, L2.upd_same, fun d6 H6 F6 ha6 hd6 => ?_⟩
    refine ⟨rfl, ?_⟩
    refine ⟨_, _, _, _, rfl, (by walk_at "hp"), (by walk_at "hp"), rfl, ?_⟩
    with_reducible refine Rd.nil (Rd.laid (by walk_at "ll") ?_)
    intro p1 np1
    with_reducible refine Rd.catL (by walk_at "hp") (by walk_at "hp") (by walk_at "ll") ?_
    intro c7 nc7
    simp (proj := false) only [List.cons_append, List.nil_append]
    with_reducible refine Rd.name ?_
    refine Rd.comp (fun Hx => Same H Hx ∧ Hx c7 = some (.lst [v1, v2, v3, v4, v5, v6])) ⟨(by walk_at "frm"), (by walk_at "hp")⟩ (fun Hy ⟨Sy, hcy⟩ => ?_)
    with_reducible refine Rd.ret (Rd.op (Rd.lc (Rd.il (Rd.var (by walk_at "vr") ?_))))
    refine ⟨_, rfl, ?_⟩
    refine Rd.lcUnrL (by walk_at "hpl") ?_
    intro D2 nD2
    refine Rd.remCons (by walk_at "hpl") ?_
    with_reducible refine Rd.name ?_
    refine ⟨rfl, ?_⟩
    refine Rd.yes (Rd.iteT rfl ?_)
    with_reducible refine Rd.cB (Rd.cons (Rd.var (by walk_at "vr") (Rd.nil ?_)))
    refine ⟨_, _, rfl, (by walk_at "rpr"), ?_⟩
    refine ⟨_, (by walk_at "hp"), L2.small1000 (by walk_at "ll"), ?_⟩
    refine Rd.remCons (by walk_at "hpl") ?_
    with_reducible refine Rd.name ?_
    refine ⟨rfl, ?_⟩
    refine Rd.yes (Rd.iteT rfl ?_)
    with_reducible refine Rd.cB (Rd.cons (Rd.var (by walk_at "vr") (Rd.nil ?_)))
    refine ⟨_, _, rfl, (by walk_at "rpr"), ?_⟩
    refine ⟨_, (by walk_at "hp"), L2.small1000 (by walk_at "ll"), ?_⟩
    refine Rd.remCons (by walk_at "hpl") ?_
    with_reducible refine Rd.name ?_
    refine ⟨rfl, ?_⟩
    refine Rd.yes (Rd.iteT rfl ?_)
    with_reducible refine Rd.cB (Rd.cons (Rd.var (by walk_at "vr") (Rd.nil ?_)))
    refine ⟨_, _, rfl, (by walk_at "rpr"), ?_⟩
    refine ⟨_, (by walk_at "hp"), L2.small1000 (by walk_at "ll"), ?_⟩
    refine Rd.remCons (by walk_at "hpl") ?_
    with_reducible refine Rd.name ?_
    refine ⟨rfl, ?_⟩
    refine Rd.yes (Rd.iteT rfl ?_)
    with_reducible refine Rd.cB (Rd.cons (Rd.var (by walk_at "vr") (Rd.nil ?_)))
    refine ⟨_, _, rfl, (by walk_at "rpr"), ?_⟩
    refine ⟨_, (by walk_at "hp"), L2.small1000 (by walk_at "ll"), ?_⟩
    refine Rd.remCons (by walk_at "hpl") ?_
    with_reducible refine Rd.name ?_
    refine ⟨rfl, ?_⟩
    refine Rd.yes (Rd.iteT rfl ?_)
    with_reducible refine Rd.cB (Rd.cons (Rd.var (by walk_at "vr") (Rd.nil ?_)))
    refine ⟨_, _, rfl, (by walk_at "rpr"), ?_⟩
    refine ⟨_, (by walk_at "hp"), L2.small1000 (by walk_at "ll"), ?_⟩
    refine Rd.remCons (by walk_at "hpl") ?_
    with_reducible refine Rd.name ?_
    refine ⟨rfl, ?_⟩
    refine Rd.yes (Rd.iteT rfl ?_)
    with_reducible refine Rd.cB (Rd.cons (Rd.var (by walk_at "vr") (Rd.nil ?_)))
    refine ⟨_, _, rfl, (by walk_at "rpr"), ?_⟩
    refine ⟨_, (by walk_at "hp"), L2.small1000 (by walk_at "ll"), ?_⟩
    refine Rd.remNil (by walk_at "hpl") ?_
    simp (proj := false) only [List.nil_append, List.cons_append, L2.upd_upd]
    with_reducible refine Rd.lc (Rd.il (Rd.var (by walk_at "vr") ?_))
    refine ⟨_, rfl, ?_⟩
    refine Rd.lcUnrL (by walk_at "hpl") ?_
    intro D3 nD3
    refine Rd.remCons (by walk_at "hpl") ?_
    with_reducible refine Rd.name ?_
    refine ⟨rfl, ?_⟩
    refine Rd.yes (Rd.iteT rfl ?_)
    with_reducible refine Rd.cB (Rd.cons (Rd.var (by walk_at "vr") (Rd.nil ?_)))
    refine ⟨_, _, rfl, (by walk_at "rpr"), ?_⟩
    refine ⟨_, (by walk_at "hp"), L2.small1000 (by walk_at "ll"), ?_⟩
    refine Rd.remCons (by walk_at "hpl") ?_
    with_reducible refine Rd.name ?_
    refine ⟨rfl, ?_⟩
    refine Rd.yes (Rd.iteT rfl ?_)
    with_reducible refine Rd.cB (Rd.cons (Rd.var (by walk_at "vr") (Rd.nil ?_)))
    refine ⟨_, _, rfl, (by walk_at "rpr"), ?_⟩
    refine ⟨_, (by walk_at "hp"), L2.small1000 (by walk_at "ll"), ?_⟩
    refine Rd.remCons (by walk_at "hpl") ?_
    with_reducible refine Rd.name ?_
    refine ⟨rfl, ?_⟩
    refine Rd.yes (Rd.iteT rfl ?_)
    with_reducible refine Rd.cB (Rd.cons (Rd.var (by walk_at "vr") (Rd.nil ?_)))
    refine ⟨_, _, rfl, (by walk_at "rpr"), ?_⟩
    refine ⟨_, (by walk_at "hp"), L2.small1000 (by walk_at "ll"), ?_⟩
    refine Rd.remCons (by walk_at "hpl") ?_
    with_reducible refine Rd.name ?_
    refine ⟨rfl, ?_⟩
    refine Rd.yes (Rd.iteT rfl ?_)
    with_reducible refine Rd.cB (Rd.cons (Rd.var (by walk_at "vr") (Rd.nil ?_)))
    refine ⟨_, _, rfl, (by walk_at "rpr"), ?_⟩
    refine ⟨_, (by walk_at "hp"), L2.small1000 (by walk_at "ll"), ?_⟩
    refine Rd.remCons (by walk_at "hpl") ?_
    with_reducible refine Rd.name ?_
    refine ⟨rfl, ?_⟩
    refine Rd.yes (Rd.iteT rfl ?_)
    with_reducible refine Rd.cB (Rd.cons (Rd.var (by walk_at "vr") (Rd.nil ?_)))
    refine ⟨_, _, rfl, (by walk_at "rpr"), ?_⟩
    refine ⟨_, (by walk_at "hp"), L2.small1000 (by walk_at "ll"), ?_⟩
    refine Rd.remCons (by walk_at "hpl") ?_
    with_reducible refine Rd.name ?_
    refine ⟨rfl, ?_⟩
    refine Rd.yes (Rd.iteT rfl ?_)
    with_reducible refine Rd.cB (Rd.cons (Rd.var (by walk_at "vr") (Rd.nil ?_)))
    refine ⟨_, _, rfl, (by walk_at "rpr"), ?_⟩
    refine ⟨_, (by walk_at "hp"), L2.small1000 (by walk_at "ll"), ?_⟩
    refine Rd.remNil (by walk_at "hpl") ?_
    simp (proj := false) only [List.nil_append, List.cons_append, L2.upd_upd]
    refine ⟨_, _, Rd.dp_listS (by exact (show SqL K _ _ (List.map V.str [r1, r2, r3, r4, r5, r6]) from (show SqL K _ _ [V.str r1, V.str r2, V.str r3, V.str r4, V.str r5, V.str r6] from .of (by walk_at "hp")))), Rd.dp_listS (by exact (show SqL K _ _ (List.map V.str [r1, r2, r3, r4, r5, r6]) from (show SqL K _ _ [V.str r1, V.str r2, V.str r3, V.str r4, V.str r5, V.str r6] from .of (by walk_at "hp")))), Rd.shaped_listS (by intro x hx; simp only [List.mem_cons, List.not_mem_nil, or_false] at hx; rcases hx with rfl | rfl | rfl | rfl | rfl | rfl <;> first | exact rv1.2 | exact rv2.2 | exact rv3.2 | exact rv4.2 | exact rv5.2 | exact rv6.2), Rd.shaped_listS (by intro x hx; simp only [List.mem_cons, List.not_mem_nil, or_false] at hx; rcases hx with rfl | rfl | rfl | rfl | rfl | rfl <;> first | exact rv1.2 | exact rv2.2 | exact rv3.2 | exact rv4.2 | exact rv5.2 | exact rv6.2), ?_⟩
    rw [Rd.eqv_listS]
    exact k _ (by walk_at "frm")
/-! law -/
theorem sc_law : FnScope ["_law_script", "_law_turn", "_law_cell_here", "_law_parts_here", "_law_errors", "_law_way", "_law_at"] ["_law_script"] (defScope s_law) := ⟨rfl, rfl, rfl, by decide +kernel, rfl, by decide +kernel, by decide +kernel⟩
theorem st_law {v0 : V} : L2.start ["_law_script", "_law_turn", "_law_cell_here", "_law_parts_here", "_law_errors", "_law_way", "_law_at"] [v0] = [some v0, none, none, none, none, none, none] := rfl
abbrev sp_law (K : PySem.W.Frag) : Sp := fun vs H Q _ => ∃ (a : Addr) (ns : List Int), vs = [.ref a] ∧ SqL K H a (ns.map V.int) ∧ ns.length ≤ 63 ∧ ∀ H', Q (.bl true) H'
theorem ok_law (T : Txt w K mg A) : FnOk P w K mg base CX0 4 A.f_law A.d_law ["_law_script"] (sp_law K) := by
  refine T.F_law.ok sc_law (fun vs H Q E h => ?_) (fun cdv Ar outer s H vs Q E hr h => ?_)
  · obtain ⟨a, ns, rfl, hS, hlen, k⟩ := h
    rfl
  · obtain ⟨a, ns, rfl, hS, hlen, k⟩ := h
    have hu := hu_of hr
    have t_xm_NoForm := T.xm_NoForm
    have t_xm_NoCounter := T.xm_NoCounter
    have t_xm_NoSize := T.xm_NoSize
    have t_xm_NoRing := T.xm_NoRing
    have t_xm_Outside := T.xm_Outside
    have t_xm_NoSet := T.xm_NoSet
    have t_xm_TooLong := T.xm_TooLong
    have t_xm_NotDecided := T.xm_NotDecided
    have t_xm_NoLag := T.xm_NoLag
    have t_xm_NoRow := T.xm_NoRow
    have t_xm_NoName := T.xm_NoName
    have t_xm_Nested := T.xm_Nested
    have t_xm_NoScheme := T.xm_NoScheme
    have t_xm_NoRun := T.xm_NoRun
    have t_xm_NotRight := T.xm_NotRight
    have t_xm_NoHands := T.xm_NoHands
    have t_xm_NoSteps := T.xm_NoSteps
    have t_xm_NoChange := T.xm_NoChange
    refine ⟨_, (pss_cons (ps_for PassesOwn.never rfl (pi_range1 (by rfl) T.n_range (pa_cons (pe_callB (call_max2 rfl) (by rfl) T.n_max (by decide +kernel) (pa_cons pe_int (pa_cons (pe_callB (call_min2 rfl) (by rfl) T.n_min (by decide +kernel) (pa_cons (pe_callB call_len_seq (by rfl) T.n_len PySem.boot_len (pa_cons (pv 0) pa_nil)) (pa_cons pe_int pa_nil))) pa_nil))) pa_nil)) (pg_name (i := 1) sc_law.nd rfl (Or.inl rfl)) (pss_cons (ps_set (i := 2) sc_law.nd rfl (Or.inl rfl) (pe_call (ok_l_cell T) (hr.mono (by decide)) (by rfl) T.m_l_cell T.F_l_cell.kp T.b_l_cell .nil pass0 (pa_cons (pv 0) (pa_cons (pv 1) pa_nil))))
      (pss_cons (ps_set (i := 3) sc_law.nd rfl (Or.inl rfl) (pe_call (ok_l_parts T) (hr.mono (by decide)) (by rfl) T.m_l_parts T.F_l_parts.kp T.b_l_parts .nil pass0 (pa_cons (pv 2) pa_nil)))
      (pss_cons (ps_set (i := 4) sc_law.nd rfl (Or.inl rfl) (pe_op op_cat (pe_call (ok_l_of_text T) (hr.mono (by decide)) (by rfl) T.m_l_of_text T.F_l_of_text.kp T.b_l_of_text .nil pass0 (pa_cons (pe_op op_add_str pe_str (pe_callTy call_str_int (by rfl) T.n_str (by decide +kernel) (pa_cons (pv 2) pa_nil))) pa_nil)) (pe_call (ok_l_of_parts T) (hr.mono (by decide)) (by rfl) T.m_l_of_parts T.F_l_of_parts.kp T.b_l_of_parts .nil pass0 (pa_cons (pv 3) pa_nil))))
      (pss_cons (ps_for PassesOwn.never rfl (pi_range1 (by rfl) T.n_range (pa_cons pe_int pa_nil)) (pg_name (i := 5) sc_law.nd rfl (Or.inr rfl)) (pss_one (ps_if (pt_cmpR (op_neD hr.units) (pe_call (ok_l_flags T) (hr.mono (by decide)) (by rfl) T.m_l_flags T.F_l_flags.kp T.b_l_flags .nil pass0 (pa_cons (pe_ix (Rd.ixLK rfl) (pv 4) (pv 5) (fun _ _ => rfl)) pa_nil)) (pe_op op_cat (pe_lc (own := [("_law_at", 6)]) (g := gName 6) rfl sc_law.nd (pi_range1 (by rfl) T.n_range (pa_cons pe_int pa_nil)) (blkOk_by (own := [("_law_at", 6)]) (N := ["_law_script", "_law_turn", "_law_cell_here", "_law_parts_here", "_law_errors", "_law_way", "_law_at"]) (sc := defScope s_law) (by decide +kernel)) (fun _ _ _ _ _ => (pg_name (i := 6) sc_law.nd rfl (Or.inl rfl))) (fun _ _ _ _ _ => pts_nil) (fun _ _ _ _ _ => (pe_cmpR op_eq (pv 6) (pv 5) (nomark _)))) (pe_lst (pa_cons pe_bl (pa_cons pe_bl pa_nil)))) (nomark _)) (pss_one ps_never) pss_nil)))
      (pss_one (ps_if (pt_not (pt_val (pe_call (ok_l_kept T) (hr.mono (by decide)) (by rfl) T.m_l_kept T.F_l_kept.kp T.b_l_kept .nil pass0 (pa_cons (pv 3) pa_nil)))) (pss_one ps_never) pss_nil)))))))
      (pss_one (ps_ret pe_bl))), ?_⟩
    try dsimp only [L2.cxOf, L2.Cx.nox, L2.Cx.wish]
    try rw [st_law]
    with_reducible refine Rd.seq (Rd.fr (Rd.rng1 (Rd.cons (Rd.cB (Rd.cons (Rd.c (Rd.cons (Rd.cB (Rd.cons (Rd.cB (Rd.cons ?_)))))))))))
    with_reducible refine Rd.var (by walk_at "vr") (Rd.nil (⟨_, _, rfl, (by walk_at "hpq"), (Rd.cons (Rd.c (Rd.nil (⟨_, _, rfl, (Rd.nil (⟨_, _, rfl, (Rd.nil (⟨_, rfl, (by walk_at "sc"), (by walk_at "sc"), ?_⟩))⟩))⟩))))⟩))
    refine for_range (lo := 0) (fun (_ : Nat) (σ : L2.St) (H' : Hp) => ∃ v_turn v_cell_here v_parts_here v_errors v_way v_at : Option V, σ = [some (.ref a), v_turn, v_cell_here, v_parts_here, v_errors, v_way, v_at] ∧ Same H H') ⟨none, none, none, none, none, none, rfl, Same.refl _⟩ (fun i σ H0 hi ⟨v_turn, v_cell_here, v_parts_here, v_errors, v_way, v_at, es, S0⟩ => ?_) (fun σ H0 ⟨v_turn, v_cell_here, v_parts_here, v_errors, v_way, v_at, es, S0⟩ => ?_)
    · subst es
      have hS0 := Same.seq S0 hS
      with_reducible refine Rd.name (Rd.seq (Rd.asg (Rd.call (Rd.cons (Rd.var (by walk_at "vr") (Rd.cons (Rd.var (by walk_at "vr") (Rd.nil ?_))))))))
      refine ⟨_, _, _, rfl, (by walk_at "hpl"), (by walk_at "sc"), (by walk_at "sc"), (by omega), fun cc1 c1a c1b => ?_⟩
      have lc1 : (Str.ofString (toString cc1)).length ≤ 70 := Tf.nS_lenB (by omega)
      have ln1 : (Str.ofString "no ").length = 3 := by decide +kernel
      with_reducible refine Rd.name ?_
      try dsimp only [Int.reduceToNat, List.set]
      with_reducible refine Rd.seq (Rd.asg (Rd.call (Rd.cons (Rd.var (by walk_at "vr") (Rd.nil ?_)))))
      refine ⟨_, rfl, (by assumption), (by assumption), fun pp2 v1 v2 v3 v4 v5 v6 r1 r2 r3 r4 r5 r6 H2 S2 np2 hp2 rv1 rv2 rv3 rv4 rv5 rv6 => ?_⟩
      with_reducible refine Rd.name ?_
      try dsimp only [Int.reduceToNat, List.set]
      with_reducible refine Rd.seq (Rd.asg (Rd.op (Rd.call (Rd.cons (Rd.op (Rd.c (Rd.cB (Rd.cons (Rd.var (by walk_at "vr") (Rd.nil ?_))))))))))
      refine ⟨_, rfl, (by walk_at "lg"), ?_⟩
      with_reducible refine ⟨_, _, rfl, rfl, (by first | walk_at "sc" | walk_at "sz"), (Rd.nil ?_)⟩
      refine ⟨_, rfl, fun pt3 lt3 H3 S3 nt3 ht3 et3 => ?_⟩
      have le3 : lt3.length = 12 := et3.len
      with_reducible refine Rd.call (Rd.cons (Rd.var (by walk_at "vr") (Rd.nil ?_)))
      refine ⟨_, _, _, _, _, _, _, rfl, (by walk_at "hp"), fun pt4 lt4 H4 S4 nt4 ht4 et4 => ?_⟩
      have le4 : lt4.length = 6 := et4.len
      with_reducible refine Rd.catL (by walk_at "hp") (by walk_at "hp") (by walk_at "ll") ?_
      intro c1 nc1
      with_reducible refine Rd.name ?_
      try dsimp only [Int.reduceToNat, List.set]
      refine Rd.comp (fun Hx => Same H0 Hx ∧ Hx pp2 = some (.lst [v1, v2, v3, v4, v5, v6]) ∧ Hx c1 = some (.lst (lt3 ++ lt4)) ∧ Es Hx (lt3 ++ lt4) (clsA A)) ⟨(by walk_at "frm"), (by walk_at "hp"), (by walk_at "hp"), (Es.same (by walk_at "frm") et3).app (Es.same (by walk_at "frm") et4)⟩ (fun HX ⟨SX, hpX, hcX, esX⟩ => ?_)
      with_reducible refine Rd.seq (Rd.fr (Rd.rng1 (Rd.cons (Rd.c (Rd.nil (⟨_, rfl, (by walk_at "sc"), (by walk_at "sc"), ?_⟩))))))
      refine for_range (lo := 0) (fun (_ : Nat) (σ : L2.St) (H' : Hp) => ∃ v_turn v_cell_here v_way v_at : Option V, σ = [some (.ref a), v_turn, v_cell_here, some (.ref pp2), some (.ref c1), v_way, v_at] ∧ Same HX H') ⟨_, _, _, _, rfl, Same.refl _⟩ (fun j σ Hz hj ⟨v_turn, v_cell_here, v_way, v_at, es, Sz⟩ => ?_) (fun σ Hz ⟨v_turn, v_cell_here, v_way, v_at, es, Sz⟩ => ?_)
      · subst es
        obtain ⟨ea, eD, hea, heD, hee⟩ := esX.at j (show j < 18 from hj)
        with_reducible refine Rd.name (Rd.ifS (Rd.test (Rd.op (Rd.call (Rd.cons (Rd.op (Rd.var (by walk_at "vr") (Rd.var (by walk_at "vr") ?_))))))))
        refine Rd.ixL (.of (by walk_at "hp")) (atI_nat (by rw [Nat.zero_add]; exact hea)) ?_
        with_reducible refine Rd.nil ?_
        refine ⟨_, _, j, rfl, heD, hee.same (by walk_at "frm"), fun pf5 H5 S5 nf5 hf5 => ?_⟩
        with_reducible refine Rd.op (Rd.lc (Rd.rng1 (Rd.cons (Rd.c (Rd.nil (⟨_, rfl, (by walk_at "sc"), (by walk_at "sc"), ?_⟩))))))
        intro D0 nD0
        refine' lc_range (lo := 0) (fun i H' => Same HX H' ∧ H' pf5 = some (.lst ((flagsL j).map V.bl)) ∧ H' D0 = some (.lst ((List.range i).map fun (x : Nat) => V.bl (decide ((x : Int) = (j : Int)))))) (⟨by walk_at "frm", by walk_at "hp", L2.upd_same⟩) (fun i H' hi p => ?lct0_u2) (fun H' p => ?lcd0_u2)
        case lct0_u2 =>
          obtain ⟨S9, h9, hD⟩ := p
          have al9 : (List.range i).length ≤ 18 := by rw [List.length_range]; omega
          with_reducible refine Rd.name ?_
          refine ⟨rfl, ?_⟩
          refine Rd.yes (Rd.iteT rfl ?_)
          with_reducible refine Rd.op (Rd.var (by walk_at "vr") (Rd.var (by walk_at "vr") (Rd.eqS (by walk_at "vr") ?_)))
          refine ⟨_, (by walk_at "hp"), (by walk_at "sz"), ?_⟩
          refine ⟨by walk_at "frm", by walk_at "hp", ?_⟩
          rw [show decide (V.int (0 + (i : Int)) = V.int (0 + (j : Int))) = decide ((i : Int) = (j : Int)) from decide_eq_decide.mpr (by simp), List.range_succ, List.map_append]
          exact L2.upd_same
        obtain ⟨S9, h9, hD⟩ := p
        with_reducible refine Rd.lst (Rd.cons (Rd.c (Rd.cons (Rd.c (Rd.nil (Rd.laid (by walk_at "ll") ?_))))))
        intro p1 np1
        with_reducible refine Rd.catL (by walk_at "hp") (by walk_at "hp") (by walk_at "ll") ?_
        intro c2 nc2
        refine ⟨_, _, Rd.dp_listB (bs := flagsL j) (.of (by walk_at "hp")), Rd.dp_listB (bs := (List.map (fun x : Nat => decide ((x : Int) = (j : Int))) (List.range 18) ++ [true, true])) (.of (by exact L2.upd_same)), Rd.shaped_listB _, Rd.shaped_listB _, ?_⟩
        rw [range18, Rd.eqv_listB]
        with_reducible refine Rd.bl (Rd.iteF (by walk_at "bF") (Rd.next ?_))
        exact ⟨_, _, _, _, rfl, (by walk_at "frm")⟩
      · subst es
        with_reducible refine Rd.ifS (Rd.not (Rd.tb (Rd.call (Rd.cons (Rd.var (by walk_at "vr") (Rd.nil ?_))))))
        refine ⟨_, _, _, _, _, _, _, _, _, _, _, _, _, rfl, (by walk_at "hp"), (by assumption), (by assumption), (by assumption), (by assumption), (by assumption), (by assumption), fun H6 S6 => ?_⟩
        with_reducible refine Rd.bl (Rd.iteF (by walk_at "bF") (Rd.next ?_))
        exact ⟨_, _, _, _, _, _, rfl, (by walk_at "frm")⟩
    · subst es
      with_reducible refine Rd.ret (Rd.c ?_)
      exact k _
end
theorem all_mk {l : PySem.W.OpenLaw} {w : World} {K : PySem.W.Frag} {h : Heap} {mg : Str → Option Value} {fa f_NoSchemeu__initu_ f_NoRunu__initu_ f_NotRightu__initu_ f_NoHandsu__initu_ f_NoStepsu__initu_ f_NoChangeu__initu_ f_l_cell f_l_parts f_l_of_text f_l_of_parts f_l_flags f_l_kept f_law c_NoScheme c_NoRun c_NotRight c_NoHands c_NoSteps c_NoChange c_RingError c_NoForm c_NoCounter c_NoSize c_NoRing c_Outside c_NoSet c_TooLong c_NotDecided c_NoLag c_NoRow c_NoName c_Nested : Addr} (X : K.In h) (G : h.Ns mainGlobals mg) (hfa : mg "law" = some (.ref fa))
    {fd_NoSchemeu__initu_ : FuncData}
    {fd_NoRunu__initu_ : FuncData}
    {fd_NotRightu__initu_ : FuncData}
    {fd_NoHandsu__initu_ : FuncData}
    {fd_NoStepsu__initu_ : FuncData}
    {fd_NoChangeu__initu_ : FuncData}
    {fd_l_cell : FuncData}
    {fd_l_parts : FuncData}
    {fd_l_of_text : FuncData}
    {fd_l_of_parts : FuncData}
    {fd_l_flags : FuncData}
    {fd_l_kept : FuncData}
    {fd_law : FuncData}
    (h_n_len : PySem.W.nsIn K mainGlobals "len" = some none)
    (h_n_int : PySem.W.nsIn K mainGlobals "int" = some none)
    (h_n_range : PySem.W.nsIn K mainGlobals "range" = some none)
    (h_n_max : PySem.W.nsIn K mainGlobals "max" = some none)
    (h_n_min : PySem.W.nsIn K mainGlobals "min" = some none)
    (h_n_isinstance : PySem.W.nsIn K mainGlobals "isinstance" = some none)
    (h_n_repr : PySem.W.nsIn K mainGlobals "repr" = some none)
    (h_n_str : PySem.W.nsIn K mainGlobals "str" = some none)
    (h_n_ValueError : PySem.W.nsIn K mainGlobals "ValueError" = some none)
    (h_m_NoForm : PySem.W.nsIn K mainGlobals "NoForm" = some (some (.ref c_NoForm)))
    (h_m_NoCounter : PySem.W.nsIn K mainGlobals "NoCounter" = some (some (.ref c_NoCounter)))
    (h_m_NoSize : PySem.W.nsIn K mainGlobals "NoSize" = some (some (.ref c_NoSize)))
    (h_m_NoRing : PySem.W.nsIn K mainGlobals "NoRing" = some (some (.ref c_NoRing)))
    (h_m_Outside : PySem.W.nsIn K mainGlobals "Outside" = some (some (.ref c_Outside)))
    (h_m_NoSet : PySem.W.nsIn K mainGlobals "NoSet" = some (some (.ref c_NoSet)))
    (h_m_TooLong : PySem.W.nsIn K mainGlobals "TooLong" = some (some (.ref c_TooLong)))
    (h_m_NotDecided : PySem.W.nsIn K mainGlobals "NotDecided" = some (some (.ref c_NotDecided)))
    (h_m_NoLag : PySem.W.nsIn K mainGlobals "NoLag" = some (some (.ref c_NoLag)))
    (h_m_NoRow : PySem.W.nsIn K mainGlobals "NoRow" = some (some (.ref c_NoRow)))
    (h_m_NoName : PySem.W.nsIn K mainGlobals "NoName" = some (some (.ref c_NoName)))
    (h_m_Nested : PySem.W.nsIn K mainGlobals "Nested" = some (some (.ref c_Nested)))
    (h_m_NoScheme : PySem.W.nsIn K mainGlobals "NoScheme" = some (some (.ref c_NoScheme)))
    (h_m_NoRun : PySem.W.nsIn K mainGlobals "NoRun" = some (some (.ref c_NoRun)))
    (h_m_NotRight : PySem.W.nsIn K mainGlobals "NotRight" = some (some (.ref c_NotRight)))
    (h_m_NoHands : PySem.W.nsIn K mainGlobals "NoHands" = some (some (.ref c_NoHands)))
    (h_m_NoSteps : PySem.W.nsIn K mainGlobals "NoSteps" = some (some (.ref c_NoSteps)))
    (h_m_NoChange : PySem.W.nsIn K mainGlobals "NoChange" = some (some (.ref c_NoChange)))
    (h_m_RingError : PySem.W.nsIn K mainGlobals "RingError" = some (some (.ref c_RingError)))
    (h_m_l_cell : PySem.W.nsIn K mainGlobals "_law_cell" = some (some (.ref f_l_cell)))
    (h_m_l_parts : PySem.W.nsIn K mainGlobals "_law_parts" = some (some (.ref f_l_parts)))
    (h_m_l_of_text : PySem.W.nsIn K mainGlobals "_law_of_text" = some (some (.ref f_l_of_text)))
    (h_m_l_of_parts : PySem.W.nsIn K mainGlobals "_law_of_parts" = some (some (.ref f_l_of_parts)))
    (h_m_l_flags : PySem.W.nsIn K mainGlobals "_law_flags" = some (some (.ref f_l_flags)))
    (h_m_l_kept : PySem.W.nsIn K mainGlobals "_law_kept" = some (some (.ref f_l_kept)))
    (h_m_law : PySem.W.nsIn K mainGlobals "law" = some (some (.ref f_law)))
    (h_x_NoForm : PySem.W.excIn K c_NoForm [.type "ValueError", .type "Exception", .type "BaseException", .type "object"] "ValueError.__new__" = true)
    (h_kp_NoForm : PySem.W.keepIn K (.ref c_NoForm) = true)
    (h_sb_NoForm : PySem.W.subIn K (.ref c_NoForm) (.type "BaseException") = some true)
    (h_tc_NoForm : PySem.W.typeIn K (.ref c_NoForm) = some (.type "type"))
    (h_x_NoCounter : PySem.W.excIn K c_NoCounter [.type "ValueError", .type "Exception", .type "BaseException", .type "object"] "ValueError.__new__" = true)
    (h_kp_NoCounter : PySem.W.keepIn K (.ref c_NoCounter) = true)
    (h_sb_NoCounter : PySem.W.subIn K (.ref c_NoCounter) (.type "BaseException") = some true)
    (h_tc_NoCounter : PySem.W.typeIn K (.ref c_NoCounter) = some (.type "type"))
    (h_x_NoSize : PySem.W.excIn K c_NoSize [.type "ValueError", .type "Exception", .type "BaseException", .type "object"] "ValueError.__new__" = true)
    (h_kp_NoSize : PySem.W.keepIn K (.ref c_NoSize) = true)
    (h_sb_NoSize : PySem.W.subIn K (.ref c_NoSize) (.type "BaseException") = some true)
    (h_tc_NoSize : PySem.W.typeIn K (.ref c_NoSize) = some (.type "type"))
    (h_x_NoRing : PySem.W.excIn K c_NoRing [.type "ValueError", .type "Exception", .type "BaseException", .type "object"] "ValueError.__new__" = true)
    (h_kp_NoRing : PySem.W.keepIn K (.ref c_NoRing) = true)
    (h_sb_NoRing : PySem.W.subIn K (.ref c_NoRing) (.type "BaseException") = some true)
    (h_tc_NoRing : PySem.W.typeIn K (.ref c_NoRing) = some (.type "type"))
    (h_x_Outside : PySem.W.excIn K c_Outside [.type "ValueError", .type "Exception", .type "BaseException", .type "object"] "ValueError.__new__" = true)
    (h_kp_Outside : PySem.W.keepIn K (.ref c_Outside) = true)
    (h_sb_Outside : PySem.W.subIn K (.ref c_Outside) (.type "BaseException") = some true)
    (h_tc_Outside : PySem.W.typeIn K (.ref c_Outside) = some (.type "type"))
    (h_x_NoSet : PySem.W.excIn K c_NoSet [.type "ValueError", .type "Exception", .type "BaseException", .type "object"] "ValueError.__new__" = true)
    (h_kp_NoSet : PySem.W.keepIn K (.ref c_NoSet) = true)
    (h_sb_NoSet : PySem.W.subIn K (.ref c_NoSet) (.type "BaseException") = some true)
    (h_tc_NoSet : PySem.W.typeIn K (.ref c_NoSet) = some (.type "type"))
    (h_x_TooLong : PySem.W.excIn K c_TooLong [.type "ValueError", .type "Exception", .type "BaseException", .type "object"] "ValueError.__new__" = true)
    (h_kp_TooLong : PySem.W.keepIn K (.ref c_TooLong) = true)
    (h_sb_TooLong : PySem.W.subIn K (.ref c_TooLong) (.type "BaseException") = some true)
    (h_tc_TooLong : PySem.W.typeIn K (.ref c_TooLong) = some (.type "type"))
    (h_x_NotDecided : PySem.W.excIn K c_NotDecided [.type "ValueError", .type "Exception", .type "BaseException", .type "object"] "ValueError.__new__" = true)
    (h_kp_NotDecided : PySem.W.keepIn K (.ref c_NotDecided) = true)
    (h_sb_NotDecided : PySem.W.subIn K (.ref c_NotDecided) (.type "BaseException") = some true)
    (h_tc_NotDecided : PySem.W.typeIn K (.ref c_NotDecided) = some (.type "type"))
    (h_x_NoLag : PySem.W.excIn K c_NoLag [.type "ValueError", .type "Exception", .type "BaseException", .type "object"] "ValueError.__new__" = true)
    (h_kp_NoLag : PySem.W.keepIn K (.ref c_NoLag) = true)
    (h_sb_NoLag : PySem.W.subIn K (.ref c_NoLag) (.type "BaseException") = some true)
    (h_tc_NoLag : PySem.W.typeIn K (.ref c_NoLag) = some (.type "type"))
    (h_x_NoRow : PySem.W.excIn K c_NoRow [.type "ValueError", .type "Exception", .type "BaseException", .type "object"] "ValueError.__new__" = true)
    (h_kp_NoRow : PySem.W.keepIn K (.ref c_NoRow) = true)
    (h_sb_NoRow : PySem.W.subIn K (.ref c_NoRow) (.type "BaseException") = some true)
    (h_tc_NoRow : PySem.W.typeIn K (.ref c_NoRow) = some (.type "type"))
    (h_x_NoName : PySem.W.excIn K c_NoName [.type "ValueError", .type "Exception", .type "BaseException", .type "object"] "ValueError.__new__" = true)
    (h_kp_NoName : PySem.W.keepIn K (.ref c_NoName) = true)
    (h_sb_NoName : PySem.W.subIn K (.ref c_NoName) (.type "BaseException") = some true)
    (h_tc_NoName : PySem.W.typeIn K (.ref c_NoName) = some (.type "type"))
    (h_x_Nested : PySem.W.excIn K c_Nested [.type "ValueError", .type "Exception", .type "BaseException", .type "object"] "ValueError.__new__" = true)
    (h_kp_Nested : PySem.W.keepIn K (.ref c_Nested) = true)
    (h_sb_Nested : PySem.W.subIn K (.ref c_Nested) (.type "BaseException") = some true)
    (h_tc_Nested : PySem.W.typeIn K (.ref c_Nested) = some (.type "type"))
    (h_F_NoSchemeu__initu_ : FunD K "__init__" "NoScheme.__init__" (defArgs s_NoSchemeu__initu_) (defBody s_NoSchemeu__initu_) (defScope s_NoSchemeu__initu_) [] [] f_NoSchemeu__initu_ fd_NoSchemeu__initu_)
    (h_F_NoRunu__initu_ : FunD K "__init__" "NoRun.__init__" (defArgs s_NoRunu__initu_) (defBody s_NoRunu__initu_) (defScope s_NoRunu__initu_) [] [] f_NoRunu__initu_ fd_NoRunu__initu_)
    (h_F_NotRightu__initu_ : FunD K "__init__" "NotRight.__init__" (defArgs s_NotRightu__initu_) (defBody s_NotRightu__initu_) (defScope s_NotRightu__initu_) [] [] f_NotRightu__initu_ fd_NotRightu__initu_)
    (h_F_NoHandsu__initu_ : FunD K "__init__" "NoHands.__init__" (defArgs s_NoHandsu__initu_) (defBody s_NoHandsu__initu_) (defScope s_NoHandsu__initu_) [] [] f_NoHandsu__initu_ fd_NoHandsu__initu_)
    (h_F_NoStepsu__initu_ : FunD K "__init__" "NoSteps.__init__" (defArgs s_NoStepsu__initu_) (defBody s_NoStepsu__initu_) (defScope s_NoStepsu__initu_) [] [] f_NoStepsu__initu_ fd_NoStepsu__initu_)
    (h_F_NoChangeu__initu_ : FunD K "__init__" "NoChange.__init__" (defArgs s_NoChangeu__initu_) (defBody s_NoChangeu__initu_) (defScope s_NoChangeu__initu_) [] [] f_NoChangeu__initu_ fd_NoChangeu__initu_)
    (h_F_l_cell : FunD K "_law_cell" "_law_cell" (defArgs s_l_cell) (defBody s_l_cell) (defScope s_l_cell) [] [] f_l_cell fd_l_cell)
    (h_F_l_parts : FunD K "_law_parts" "_law_parts" (defArgs s_l_parts) (defBody s_l_parts) (defScope s_l_parts) [] [] f_l_parts fd_l_parts)
    (h_F_l_of_text : FunD K "_law_of_text" "_law_of_text" (defArgs s_l_of_text) (defBody s_l_of_text) (defScope s_l_of_text) [] [] f_l_of_text fd_l_of_text)
    (h_F_l_of_parts : FunD K "_law_of_parts" "_law_of_parts" (defArgs s_l_of_parts) (defBody s_l_of_parts) (defScope s_l_of_parts) [] [] f_l_of_parts fd_l_of_parts)
    (h_F_l_flags : FunD K "_law_flags" "_law_flags" (defArgs s_l_flags) (defBody s_l_flags) (defScope s_l_flags) [] [] f_l_flags fd_l_flags)
    (h_F_l_kept : FunD K "_law_kept" "_law_kept" (defArgs s_l_kept) (defBody s_l_kept) (defScope s_l_kept) [] [] f_l_kept fd_l_kept)
    (h_F_law : FunD K "law" "law" (defArgs s_law) (defBody s_law) (defScope s_law) [] [] f_law fd_law)
    (h_qt_NoForm_in_NoForm : PySem.W.kitOne K (.ref c_NoForm) (.ref c_NoForm) = some true)
    (h_qt_NoForm_in_NoCounter : PySem.W.kitOne K (.ref c_NoForm) (.ref c_NoCounter) = some false)
    (h_qt_NoForm_in_NoSize : PySem.W.kitOne K (.ref c_NoForm) (.ref c_NoSize) = some false)
    (h_qt_NoForm_in_NoRing : PySem.W.kitOne K (.ref c_NoForm) (.ref c_NoRing) = some false)
    (h_qt_NoForm_in_Outside : PySem.W.kitOne K (.ref c_NoForm) (.ref c_Outside) = some false)
    (h_qt_NoForm_in_NoSet : PySem.W.kitOne K (.ref c_NoForm) (.ref c_NoSet) = some false)
    (h_qt_NoForm_in_TooLong : PySem.W.kitOne K (.ref c_NoForm) (.ref c_TooLong) = some false)
    (h_qt_NoForm_in_NotDecided : PySem.W.kitOne K (.ref c_NoForm) (.ref c_NotDecided) = some false)
    (h_qt_NoForm_in_NoLag : PySem.W.kitOne K (.ref c_NoForm) (.ref c_NoLag) = some false)
    (h_qt_NoForm_in_NoRow : PySem.W.kitOne K (.ref c_NoForm) (.ref c_NoRow) = some false)
    (h_qt_NoForm_in_NoName : PySem.W.kitOne K (.ref c_NoForm) (.ref c_NoName) = some false)
    (h_qt_NoForm_in_Nested : PySem.W.kitOne K (.ref c_NoForm) (.ref c_Nested) = some false)
    (h_qt_NoForm_in_NoScheme : PySem.W.kitOne K (.ref c_NoForm) (.ref c_NoScheme) = some false)
    (h_qt_NoForm_in_NoRun : PySem.W.kitOne K (.ref c_NoForm) (.ref c_NoRun) = some false)
    (h_qt_NoForm_in_NotRight : PySem.W.kitOne K (.ref c_NoForm) (.ref c_NotRight) = some false)
    (h_qt_NoForm_in_NoHands : PySem.W.kitOne K (.ref c_NoForm) (.ref c_NoHands) = some false)
    (h_qt_NoForm_in_NoSteps : PySem.W.kitOne K (.ref c_NoForm) (.ref c_NoSteps) = some false)
    (h_qt_NoForm_in_NoChange : PySem.W.kitOne K (.ref c_NoForm) (.ref c_NoChange) = some false)
    (h_qt_NoForm_in_RingError : PySem.W.kitOne K (.ref c_NoForm) (.ref c_RingError) = some true)
    (h_qt_NoForm_in_VE : PySem.W.kitOne K (.ref c_NoForm) (.type "ValueError") = some true)
    (h_sb_RingError : PySem.W.subIn K (.ref c_RingError) (.type "BaseException") = some true)
    (h_hd_RingError : PySem.W.hasDictIn K c_RingError = true)
    (h_tc_RingError : PySem.W.typeIn K (.ref c_RingError) = some (.type "type"))
    (h_sr_NoForm : PySem.W.subIn K (.ref c_NoForm) (.ref c_RingError) = some true)
    (h_ecg_NoForm : PySem.W.findIn K (.ref c_NoForm) "__getattribute__" = some (some (.builtin "BaseException.__getattribute__")))
    (h_eck_NoForm : PySem.W.findIn K (.ref c_NoForm) "__getattr__" = some none)
    (h_hd_NoForm : PySem.W.hasDictIn K c_NoForm = true)
    (h_eca_NoForm : PySem.W.findIn K (.ref c_NoForm) "__class__" = some (some (.builtin "object.__class__")))
    (h_ecn : PySem.W.specialIn K (.builtin "object.__class__") "__get__" = some (some (.builtin "getset_descriptor.__get__")))
    (h_ect : PySem.W.takesIn K (.builtin "object.__class__") = some true)
    (h_ecm_NoForm : PySem.W.mroIn K c_NoForm (.type "object") = some true)
    (h_qt_NoCounter_in_NoForm : PySem.W.kitOne K (.ref c_NoCounter) (.ref c_NoForm) = some false)
    (h_qt_NoCounter_in_NoCounter : PySem.W.kitOne K (.ref c_NoCounter) (.ref c_NoCounter) = some true)
    (h_qt_NoCounter_in_NoSize : PySem.W.kitOne K (.ref c_NoCounter) (.ref c_NoSize) = some false)
    (h_qt_NoCounter_in_NoRing : PySem.W.kitOne K (.ref c_NoCounter) (.ref c_NoRing) = some false)
    (h_qt_NoCounter_in_Outside : PySem.W.kitOne K (.ref c_NoCounter) (.ref c_Outside) = some false)
    (h_qt_NoCounter_in_NoSet : PySem.W.kitOne K (.ref c_NoCounter) (.ref c_NoSet) = some false)
    (h_qt_NoCounter_in_TooLong : PySem.W.kitOne K (.ref c_NoCounter) (.ref c_TooLong) = some false)
    (h_qt_NoCounter_in_NotDecided : PySem.W.kitOne K (.ref c_NoCounter) (.ref c_NotDecided) = some false)
    (h_qt_NoCounter_in_NoLag : PySem.W.kitOne K (.ref c_NoCounter) (.ref c_NoLag) = some false)
    (h_qt_NoCounter_in_NoRow : PySem.W.kitOne K (.ref c_NoCounter) (.ref c_NoRow) = some false)
    (h_qt_NoCounter_in_NoName : PySem.W.kitOne K (.ref c_NoCounter) (.ref c_NoName) = some false)
    (h_qt_NoCounter_in_Nested : PySem.W.kitOne K (.ref c_NoCounter) (.ref c_Nested) = some false)
    (h_qt_NoCounter_in_NoScheme : PySem.W.kitOne K (.ref c_NoCounter) (.ref c_NoScheme) = some false)
    (h_qt_NoCounter_in_NoRun : PySem.W.kitOne K (.ref c_NoCounter) (.ref c_NoRun) = some false)
    (h_qt_NoCounter_in_NotRight : PySem.W.kitOne K (.ref c_NoCounter) (.ref c_NotRight) = some false)
    (h_qt_NoCounter_in_NoHands : PySem.W.kitOne K (.ref c_NoCounter) (.ref c_NoHands) = some false)
    (h_qt_NoCounter_in_NoSteps : PySem.W.kitOne K (.ref c_NoCounter) (.ref c_NoSteps) = some false)
    (h_qt_NoCounter_in_NoChange : PySem.W.kitOne K (.ref c_NoCounter) (.ref c_NoChange) = some false)
    (h_qt_NoCounter_in_RingError : PySem.W.kitOne K (.ref c_NoCounter) (.ref c_RingError) = some true)
    (h_qt_NoCounter_in_VE : PySem.W.kitOne K (.ref c_NoCounter) (.type "ValueError") = some true)
    (h_sr_NoCounter : PySem.W.subIn K (.ref c_NoCounter) (.ref c_RingError) = some true)
    (h_ecg_NoCounter : PySem.W.findIn K (.ref c_NoCounter) "__getattribute__" = some (some (.builtin "BaseException.__getattribute__")))
    (h_eck_NoCounter : PySem.W.findIn K (.ref c_NoCounter) "__getattr__" = some none)
    (h_hd_NoCounter : PySem.W.hasDictIn K c_NoCounter = true)
    (h_eca_NoCounter : PySem.W.findIn K (.ref c_NoCounter) "__class__" = some (some (.builtin "object.__class__")))
    (h_ecm_NoCounter : PySem.W.mroIn K c_NoCounter (.type "object") = some true)
    (h_qt_NoSize_in_NoForm : PySem.W.kitOne K (.ref c_NoSize) (.ref c_NoForm) = some false)
    (h_qt_NoSize_in_NoCounter : PySem.W.kitOne K (.ref c_NoSize) (.ref c_NoCounter) = some false)
    (h_qt_NoSize_in_NoSize : PySem.W.kitOne K (.ref c_NoSize) (.ref c_NoSize) = some true)
    (h_qt_NoSize_in_NoRing : PySem.W.kitOne K (.ref c_NoSize) (.ref c_NoRing) = some false)
    (h_qt_NoSize_in_Outside : PySem.W.kitOne K (.ref c_NoSize) (.ref c_Outside) = some false)
    (h_qt_NoSize_in_NoSet : PySem.W.kitOne K (.ref c_NoSize) (.ref c_NoSet) = some false)
    (h_qt_NoSize_in_TooLong : PySem.W.kitOne K (.ref c_NoSize) (.ref c_TooLong) = some false)
    (h_qt_NoSize_in_NotDecided : PySem.W.kitOne K (.ref c_NoSize) (.ref c_NotDecided) = some false)
    (h_qt_NoSize_in_NoLag : PySem.W.kitOne K (.ref c_NoSize) (.ref c_NoLag) = some false)
    (h_qt_NoSize_in_NoRow : PySem.W.kitOne K (.ref c_NoSize) (.ref c_NoRow) = some false)
    (h_qt_NoSize_in_NoName : PySem.W.kitOne K (.ref c_NoSize) (.ref c_NoName) = some false)
    (h_qt_NoSize_in_Nested : PySem.W.kitOne K (.ref c_NoSize) (.ref c_Nested) = some false)
    (h_qt_NoSize_in_NoScheme : PySem.W.kitOne K (.ref c_NoSize) (.ref c_NoScheme) = some false)
    (h_qt_NoSize_in_NoRun : PySem.W.kitOne K (.ref c_NoSize) (.ref c_NoRun) = some false)
    (h_qt_NoSize_in_NotRight : PySem.W.kitOne K (.ref c_NoSize) (.ref c_NotRight) = some false)
    (h_qt_NoSize_in_NoHands : PySem.W.kitOne K (.ref c_NoSize) (.ref c_NoHands) = some false)
    (h_qt_NoSize_in_NoSteps : PySem.W.kitOne K (.ref c_NoSize) (.ref c_NoSteps) = some false)
    (h_qt_NoSize_in_NoChange : PySem.W.kitOne K (.ref c_NoSize) (.ref c_NoChange) = some false)
    (h_qt_NoSize_in_RingError : PySem.W.kitOne K (.ref c_NoSize) (.ref c_RingError) = some true)
    (h_qt_NoSize_in_VE : PySem.W.kitOne K (.ref c_NoSize) (.type "ValueError") = some true)
    (h_sr_NoSize : PySem.W.subIn K (.ref c_NoSize) (.ref c_RingError) = some true)
    (h_ecg_NoSize : PySem.W.findIn K (.ref c_NoSize) "__getattribute__" = some (some (.builtin "BaseException.__getattribute__")))
    (h_eck_NoSize : PySem.W.findIn K (.ref c_NoSize) "__getattr__" = some none)
    (h_hd_NoSize : PySem.W.hasDictIn K c_NoSize = true)
    (h_eca_NoSize : PySem.W.findIn K (.ref c_NoSize) "__class__" = some (some (.builtin "object.__class__")))
    (h_ecm_NoSize : PySem.W.mroIn K c_NoSize (.type "object") = some true)
    (h_qt_NoRing_in_NoForm : PySem.W.kitOne K (.ref c_NoRing) (.ref c_NoForm) = some false)
    (h_qt_NoRing_in_NoCounter : PySem.W.kitOne K (.ref c_NoRing) (.ref c_NoCounter) = some false)
    (h_qt_NoRing_in_NoSize : PySem.W.kitOne K (.ref c_NoRing) (.ref c_NoSize) = some false)
    (h_qt_NoRing_in_NoRing : PySem.W.kitOne K (.ref c_NoRing) (.ref c_NoRing) = some true)
    (h_qt_NoRing_in_Outside : PySem.W.kitOne K (.ref c_NoRing) (.ref c_Outside) = some false)
    (h_qt_NoRing_in_NoSet : PySem.W.kitOne K (.ref c_NoRing) (.ref c_NoSet) = some false)
    (h_qt_NoRing_in_TooLong : PySem.W.kitOne K (.ref c_NoRing) (.ref c_TooLong) = some false)
    (h_qt_NoRing_in_NotDecided : PySem.W.kitOne K (.ref c_NoRing) (.ref c_NotDecided) = some false)
    (h_qt_NoRing_in_NoLag : PySem.W.kitOne K (.ref c_NoRing) (.ref c_NoLag) = some false)
    (h_qt_NoRing_in_NoRow : PySem.W.kitOne K (.ref c_NoRing) (.ref c_NoRow) = some false)
    (h_qt_NoRing_in_NoName : PySem.W.kitOne K (.ref c_NoRing) (.ref c_NoName) = some false)
    (h_qt_NoRing_in_Nested : PySem.W.kitOne K (.ref c_NoRing) (.ref c_Nested) = some false)
    (h_qt_NoRing_in_NoScheme : PySem.W.kitOne K (.ref c_NoRing) (.ref c_NoScheme) = some false)
    (h_qt_NoRing_in_NoRun : PySem.W.kitOne K (.ref c_NoRing) (.ref c_NoRun) = some false)
    (h_qt_NoRing_in_NotRight : PySem.W.kitOne K (.ref c_NoRing) (.ref c_NotRight) = some false)
    (h_qt_NoRing_in_NoHands : PySem.W.kitOne K (.ref c_NoRing) (.ref c_NoHands) = some false)
    (h_qt_NoRing_in_NoSteps : PySem.W.kitOne K (.ref c_NoRing) (.ref c_NoSteps) = some false)
    (h_qt_NoRing_in_NoChange : PySem.W.kitOne K (.ref c_NoRing) (.ref c_NoChange) = some false)
    (h_qt_NoRing_in_RingError : PySem.W.kitOne K (.ref c_NoRing) (.ref c_RingError) = some true)
    (h_qt_NoRing_in_VE : PySem.W.kitOne K (.ref c_NoRing) (.type "ValueError") = some true)
    (h_sr_NoRing : PySem.W.subIn K (.ref c_NoRing) (.ref c_RingError) = some true)
    (h_ecg_NoRing : PySem.W.findIn K (.ref c_NoRing) "__getattribute__" = some (some (.builtin "BaseException.__getattribute__")))
    (h_eck_NoRing : PySem.W.findIn K (.ref c_NoRing) "__getattr__" = some none)
    (h_hd_NoRing : PySem.W.hasDictIn K c_NoRing = true)
    (h_eca_NoRing : PySem.W.findIn K (.ref c_NoRing) "__class__" = some (some (.builtin "object.__class__")))
    (h_ecm_NoRing : PySem.W.mroIn K c_NoRing (.type "object") = some true)
    (h_qt_Outside_in_NoForm : PySem.W.kitOne K (.ref c_Outside) (.ref c_NoForm) = some false)
    (h_qt_Outside_in_NoCounter : PySem.W.kitOne K (.ref c_Outside) (.ref c_NoCounter) = some false)
    (h_qt_Outside_in_NoSize : PySem.W.kitOne K (.ref c_Outside) (.ref c_NoSize) = some false)
    (h_qt_Outside_in_NoRing : PySem.W.kitOne K (.ref c_Outside) (.ref c_NoRing) = some false)
    (h_qt_Outside_in_Outside : PySem.W.kitOne K (.ref c_Outside) (.ref c_Outside) = some true)
    (h_qt_Outside_in_NoSet : PySem.W.kitOne K (.ref c_Outside) (.ref c_NoSet) = some false)
    (h_qt_Outside_in_TooLong : PySem.W.kitOne K (.ref c_Outside) (.ref c_TooLong) = some false)
    (h_qt_Outside_in_NotDecided : PySem.W.kitOne K (.ref c_Outside) (.ref c_NotDecided) = some false)
    (h_qt_Outside_in_NoLag : PySem.W.kitOne K (.ref c_Outside) (.ref c_NoLag) = some false)
    (h_qt_Outside_in_NoRow : PySem.W.kitOne K (.ref c_Outside) (.ref c_NoRow) = some false)
    (h_qt_Outside_in_NoName : PySem.W.kitOne K (.ref c_Outside) (.ref c_NoName) = some false)
    (h_qt_Outside_in_Nested : PySem.W.kitOne K (.ref c_Outside) (.ref c_Nested) = some false)
    (h_qt_Outside_in_NoScheme : PySem.W.kitOne K (.ref c_Outside) (.ref c_NoScheme) = some false)
    (h_qt_Outside_in_NoRun : PySem.W.kitOne K (.ref c_Outside) (.ref c_NoRun) = some false)
    (h_qt_Outside_in_NotRight : PySem.W.kitOne K (.ref c_Outside) (.ref c_NotRight) = some false)
    (h_qt_Outside_in_NoHands : PySem.W.kitOne K (.ref c_Outside) (.ref c_NoHands) = some false)
    (h_qt_Outside_in_NoSteps : PySem.W.kitOne K (.ref c_Outside) (.ref c_NoSteps) = some false)
    (h_qt_Outside_in_NoChange : PySem.W.kitOne K (.ref c_Outside) (.ref c_NoChange) = some false)
    (h_qt_Outside_in_RingError : PySem.W.kitOne K (.ref c_Outside) (.ref c_RingError) = some true)
    (h_qt_Outside_in_VE : PySem.W.kitOne K (.ref c_Outside) (.type "ValueError") = some true)
    (h_sr_Outside : PySem.W.subIn K (.ref c_Outside) (.ref c_RingError) = some true)
    (h_ecg_Outside : PySem.W.findIn K (.ref c_Outside) "__getattribute__" = some (some (.builtin "BaseException.__getattribute__")))
    (h_eck_Outside : PySem.W.findIn K (.ref c_Outside) "__getattr__" = some none)
    (h_hd_Outside : PySem.W.hasDictIn K c_Outside = true)
    (h_eca_Outside : PySem.W.findIn K (.ref c_Outside) "__class__" = some (some (.builtin "object.__class__")))
    (h_ecm_Outside : PySem.W.mroIn K c_Outside (.type "object") = some true)
    (h_qt_NoSet_in_NoForm : PySem.W.kitOne K (.ref c_NoSet) (.ref c_NoForm) = some false)
    (h_qt_NoSet_in_NoCounter : PySem.W.kitOne K (.ref c_NoSet) (.ref c_NoCounter) = some false)
    (h_qt_NoSet_in_NoSize : PySem.W.kitOne K (.ref c_NoSet) (.ref c_NoSize) = some false)
    (h_qt_NoSet_in_NoRing : PySem.W.kitOne K (.ref c_NoSet) (.ref c_NoRing) = some false)
    (h_qt_NoSet_in_Outside : PySem.W.kitOne K (.ref c_NoSet) (.ref c_Outside) = some false)
    (h_qt_NoSet_in_NoSet : PySem.W.kitOne K (.ref c_NoSet) (.ref c_NoSet) = some true)
    (h_qt_NoSet_in_TooLong : PySem.W.kitOne K (.ref c_NoSet) (.ref c_TooLong) = some false)
    (h_qt_NoSet_in_NotDecided : PySem.W.kitOne K (.ref c_NoSet) (.ref c_NotDecided) = some false)
    (h_qt_NoSet_in_NoLag : PySem.W.kitOne K (.ref c_NoSet) (.ref c_NoLag) = some false)
    (h_qt_NoSet_in_NoRow : PySem.W.kitOne K (.ref c_NoSet) (.ref c_NoRow) = some false)
    (h_qt_NoSet_in_NoName : PySem.W.kitOne K (.ref c_NoSet) (.ref c_NoName) = some false)
    (h_qt_NoSet_in_Nested : PySem.W.kitOne K (.ref c_NoSet) (.ref c_Nested) = some false)
    (h_qt_NoSet_in_NoScheme : PySem.W.kitOne K (.ref c_NoSet) (.ref c_NoScheme) = some false)
    (h_qt_NoSet_in_NoRun : PySem.W.kitOne K (.ref c_NoSet) (.ref c_NoRun) = some false)
    (h_qt_NoSet_in_NotRight : PySem.W.kitOne K (.ref c_NoSet) (.ref c_NotRight) = some false)
    (h_qt_NoSet_in_NoHands : PySem.W.kitOne K (.ref c_NoSet) (.ref c_NoHands) = some false)
    (h_qt_NoSet_in_NoSteps : PySem.W.kitOne K (.ref c_NoSet) (.ref c_NoSteps) = some false)
    (h_qt_NoSet_in_NoChange : PySem.W.kitOne K (.ref c_NoSet) (.ref c_NoChange) = some false)
    (h_qt_NoSet_in_RingError : PySem.W.kitOne K (.ref c_NoSet) (.ref c_RingError) = some true)
    (h_qt_NoSet_in_VE : PySem.W.kitOne K (.ref c_NoSet) (.type "ValueError") = some true)
    (h_sr_NoSet : PySem.W.subIn K (.ref c_NoSet) (.ref c_RingError) = some true)
    (h_ecg_NoSet : PySem.W.findIn K (.ref c_NoSet) "__getattribute__" = some (some (.builtin "BaseException.__getattribute__")))
    (h_eck_NoSet : PySem.W.findIn K (.ref c_NoSet) "__getattr__" = some none)
    (h_hd_NoSet : PySem.W.hasDictIn K c_NoSet = true)
    (h_eca_NoSet : PySem.W.findIn K (.ref c_NoSet) "__class__" = some (some (.builtin "object.__class__")))
    (h_ecm_NoSet : PySem.W.mroIn K c_NoSet (.type "object") = some true)
    (h_qt_TooLong_in_NoForm : PySem.W.kitOne K (.ref c_TooLong) (.ref c_NoForm) = some false)
    (h_qt_TooLong_in_NoCounter : PySem.W.kitOne K (.ref c_TooLong) (.ref c_NoCounter) = some false)
    (h_qt_TooLong_in_NoSize : PySem.W.kitOne K (.ref c_TooLong) (.ref c_NoSize) = some false)
    (h_qt_TooLong_in_NoRing : PySem.W.kitOne K (.ref c_TooLong) (.ref c_NoRing) = some false)
    (h_qt_TooLong_in_Outside : PySem.W.kitOne K (.ref c_TooLong) (.ref c_Outside) = some false)
    (h_qt_TooLong_in_NoSet : PySem.W.kitOne K (.ref c_TooLong) (.ref c_NoSet) = some false)
    (h_qt_TooLong_in_TooLong : PySem.W.kitOne K (.ref c_TooLong) (.ref c_TooLong) = some true)
    (h_qt_TooLong_in_NotDecided : PySem.W.kitOne K (.ref c_TooLong) (.ref c_NotDecided) = some false)
    (h_qt_TooLong_in_NoLag : PySem.W.kitOne K (.ref c_TooLong) (.ref c_NoLag) = some false)
    (h_qt_TooLong_in_NoRow : PySem.W.kitOne K (.ref c_TooLong) (.ref c_NoRow) = some false)
    (h_qt_TooLong_in_NoName : PySem.W.kitOne K (.ref c_TooLong) (.ref c_NoName) = some false)
    (h_qt_TooLong_in_Nested : PySem.W.kitOne K (.ref c_TooLong) (.ref c_Nested) = some false)
    (h_qt_TooLong_in_NoScheme : PySem.W.kitOne K (.ref c_TooLong) (.ref c_NoScheme) = some false)
    (h_qt_TooLong_in_NoRun : PySem.W.kitOne K (.ref c_TooLong) (.ref c_NoRun) = some false)
    (h_qt_TooLong_in_NotRight : PySem.W.kitOne K (.ref c_TooLong) (.ref c_NotRight) = some false)
    (h_qt_TooLong_in_NoHands : PySem.W.kitOne K (.ref c_TooLong) (.ref c_NoHands) = some false)
    (h_qt_TooLong_in_NoSteps : PySem.W.kitOne K (.ref c_TooLong) (.ref c_NoSteps) = some false)
    (h_qt_TooLong_in_NoChange : PySem.W.kitOne K (.ref c_TooLong) (.ref c_NoChange) = some false)
    (h_qt_TooLong_in_RingError : PySem.W.kitOne K (.ref c_TooLong) (.ref c_RingError) = some true)
    (h_qt_TooLong_in_VE : PySem.W.kitOne K (.ref c_TooLong) (.type "ValueError") = some true)
    (h_sr_TooLong : PySem.W.subIn K (.ref c_TooLong) (.ref c_RingError) = some true)
    (h_ecg_TooLong : PySem.W.findIn K (.ref c_TooLong) "__getattribute__" = some (some (.builtin "BaseException.__getattribute__")))
    (h_eck_TooLong : PySem.W.findIn K (.ref c_TooLong) "__getattr__" = some none)
    (h_hd_TooLong : PySem.W.hasDictIn K c_TooLong = true)
    (h_eca_TooLong : PySem.W.findIn K (.ref c_TooLong) "__class__" = some (some (.builtin "object.__class__")))
    (h_ecm_TooLong : PySem.W.mroIn K c_TooLong (.type "object") = some true)
    (h_qt_NotDecided_in_NoForm : PySem.W.kitOne K (.ref c_NotDecided) (.ref c_NoForm) = some false)
    (h_qt_NotDecided_in_NoCounter : PySem.W.kitOne K (.ref c_NotDecided) (.ref c_NoCounter) = some false)
    (h_qt_NotDecided_in_NoSize : PySem.W.kitOne K (.ref c_NotDecided) (.ref c_NoSize) = some false)
    (h_qt_NotDecided_in_NoRing : PySem.W.kitOne K (.ref c_NotDecided) (.ref c_NoRing) = some false)
    (h_qt_NotDecided_in_Outside : PySem.W.kitOne K (.ref c_NotDecided) (.ref c_Outside) = some false)
    (h_qt_NotDecided_in_NoSet : PySem.W.kitOne K (.ref c_NotDecided) (.ref c_NoSet) = some false)
    (h_qt_NotDecided_in_TooLong : PySem.W.kitOne K (.ref c_NotDecided) (.ref c_TooLong) = some false)
    (h_qt_NotDecided_in_NotDecided : PySem.W.kitOne K (.ref c_NotDecided) (.ref c_NotDecided) = some true)
    (h_qt_NotDecided_in_NoLag : PySem.W.kitOne K (.ref c_NotDecided) (.ref c_NoLag) = some false)
    (h_qt_NotDecided_in_NoRow : PySem.W.kitOne K (.ref c_NotDecided) (.ref c_NoRow) = some false)
    (h_qt_NotDecided_in_NoName : PySem.W.kitOne K (.ref c_NotDecided) (.ref c_NoName) = some false)
    (h_qt_NotDecided_in_Nested : PySem.W.kitOne K (.ref c_NotDecided) (.ref c_Nested) = some false)
    (h_qt_NotDecided_in_NoScheme : PySem.W.kitOne K (.ref c_NotDecided) (.ref c_NoScheme) = some false)
    (h_qt_NotDecided_in_NoRun : PySem.W.kitOne K (.ref c_NotDecided) (.ref c_NoRun) = some false)
    (h_qt_NotDecided_in_NotRight : PySem.W.kitOne K (.ref c_NotDecided) (.ref c_NotRight) = some false)
    (h_qt_NotDecided_in_NoHands : PySem.W.kitOne K (.ref c_NotDecided) (.ref c_NoHands) = some false)
    (h_qt_NotDecided_in_NoSteps : PySem.W.kitOne K (.ref c_NotDecided) (.ref c_NoSteps) = some false)
    (h_qt_NotDecided_in_NoChange : PySem.W.kitOne K (.ref c_NotDecided) (.ref c_NoChange) = some false)
    (h_qt_NotDecided_in_RingError : PySem.W.kitOne K (.ref c_NotDecided) (.ref c_RingError) = some true)
    (h_qt_NotDecided_in_VE : PySem.W.kitOne K (.ref c_NotDecided) (.type "ValueError") = some true)
    (h_sr_NotDecided : PySem.W.subIn K (.ref c_NotDecided) (.ref c_RingError) = some true)
    (h_ecg_NotDecided : PySem.W.findIn K (.ref c_NotDecided) "__getattribute__" = some (some (.builtin "BaseException.__getattribute__")))
    (h_eck_NotDecided : PySem.W.findIn K (.ref c_NotDecided) "__getattr__" = some none)
    (h_hd_NotDecided : PySem.W.hasDictIn K c_NotDecided = true)
    (h_eca_NotDecided : PySem.W.findIn K (.ref c_NotDecided) "__class__" = some (some (.builtin "object.__class__")))
    (h_ecm_NotDecided : PySem.W.mroIn K c_NotDecided (.type "object") = some true)
    (h_qt_NoLag_in_NoForm : PySem.W.kitOne K (.ref c_NoLag) (.ref c_NoForm) = some false)
    (h_qt_NoLag_in_NoCounter : PySem.W.kitOne K (.ref c_NoLag) (.ref c_NoCounter) = some false)
    (h_qt_NoLag_in_NoSize : PySem.W.kitOne K (.ref c_NoLag) (.ref c_NoSize) = some false)
    (h_qt_NoLag_in_NoRing : PySem.W.kitOne K (.ref c_NoLag) (.ref c_NoRing) = some false)
    (h_qt_NoLag_in_Outside : PySem.W.kitOne K (.ref c_NoLag) (.ref c_Outside) = some false)
    (h_qt_NoLag_in_NoSet : PySem.W.kitOne K (.ref c_NoLag) (.ref c_NoSet) = some false)
    (h_qt_NoLag_in_TooLong : PySem.W.kitOne K (.ref c_NoLag) (.ref c_TooLong) = some false)
    (h_qt_NoLag_in_NotDecided : PySem.W.kitOne K (.ref c_NoLag) (.ref c_NotDecided) = some false)
    (h_qt_NoLag_in_NoLag : PySem.W.kitOne K (.ref c_NoLag) (.ref c_NoLag) = some true)
    (h_qt_NoLag_in_NoRow : PySem.W.kitOne K (.ref c_NoLag) (.ref c_NoRow) = some false)
    (h_qt_NoLag_in_NoName : PySem.W.kitOne K (.ref c_NoLag) (.ref c_NoName) = some false)
    (h_qt_NoLag_in_Nested : PySem.W.kitOne K (.ref c_NoLag) (.ref c_Nested) = some false)
    (h_qt_NoLag_in_NoScheme : PySem.W.kitOne K (.ref c_NoLag) (.ref c_NoScheme) = some false)
    (h_qt_NoLag_in_NoRun : PySem.W.kitOne K (.ref c_NoLag) (.ref c_NoRun) = some false)
    (h_qt_NoLag_in_NotRight : PySem.W.kitOne K (.ref c_NoLag) (.ref c_NotRight) = some false)
    (h_qt_NoLag_in_NoHands : PySem.W.kitOne K (.ref c_NoLag) (.ref c_NoHands) = some false)
    (h_qt_NoLag_in_NoSteps : PySem.W.kitOne K (.ref c_NoLag) (.ref c_NoSteps) = some false)
    (h_qt_NoLag_in_NoChange : PySem.W.kitOne K (.ref c_NoLag) (.ref c_NoChange) = some false)
    (h_qt_NoLag_in_RingError : PySem.W.kitOne K (.ref c_NoLag) (.ref c_RingError) = some true)
    (h_qt_NoLag_in_VE : PySem.W.kitOne K (.ref c_NoLag) (.type "ValueError") = some true)
    (h_sr_NoLag : PySem.W.subIn K (.ref c_NoLag) (.ref c_RingError) = some true)
    (h_ecg_NoLag : PySem.W.findIn K (.ref c_NoLag) "__getattribute__" = some (some (.builtin "BaseException.__getattribute__")))
    (h_eck_NoLag : PySem.W.findIn K (.ref c_NoLag) "__getattr__" = some none)
    (h_hd_NoLag : PySem.W.hasDictIn K c_NoLag = true)
    (h_eca_NoLag : PySem.W.findIn K (.ref c_NoLag) "__class__" = some (some (.builtin "object.__class__")))
    (h_ecm_NoLag : PySem.W.mroIn K c_NoLag (.type "object") = some true)
    (h_qt_NoRow_in_NoForm : PySem.W.kitOne K (.ref c_NoRow) (.ref c_NoForm) = some false)
    (h_qt_NoRow_in_NoCounter : PySem.W.kitOne K (.ref c_NoRow) (.ref c_NoCounter) = some false)
    (h_qt_NoRow_in_NoSize : PySem.W.kitOne K (.ref c_NoRow) (.ref c_NoSize) = some false)
    (h_qt_NoRow_in_NoRing : PySem.W.kitOne K (.ref c_NoRow) (.ref c_NoRing) = some false)
    (h_qt_NoRow_in_Outside : PySem.W.kitOne K (.ref c_NoRow) (.ref c_Outside) = some false)
    (h_qt_NoRow_in_NoSet : PySem.W.kitOne K (.ref c_NoRow) (.ref c_NoSet) = some false)
    (h_qt_NoRow_in_TooLong : PySem.W.kitOne K (.ref c_NoRow) (.ref c_TooLong) = some false)
    (h_qt_NoRow_in_NotDecided : PySem.W.kitOne K (.ref c_NoRow) (.ref c_NotDecided) = some false)
    (h_qt_NoRow_in_NoLag : PySem.W.kitOne K (.ref c_NoRow) (.ref c_NoLag) = some false)
    (h_qt_NoRow_in_NoRow : PySem.W.kitOne K (.ref c_NoRow) (.ref c_NoRow) = some true)
    (h_qt_NoRow_in_NoName : PySem.W.kitOne K (.ref c_NoRow) (.ref c_NoName) = some false)
    (h_qt_NoRow_in_Nested : PySem.W.kitOne K (.ref c_NoRow) (.ref c_Nested) = some false)
    (h_qt_NoRow_in_NoScheme : PySem.W.kitOne K (.ref c_NoRow) (.ref c_NoScheme) = some false)
    (h_qt_NoRow_in_NoRun : PySem.W.kitOne K (.ref c_NoRow) (.ref c_NoRun) = some false)
    (h_qt_NoRow_in_NotRight : PySem.W.kitOne K (.ref c_NoRow) (.ref c_NotRight) = some false)
    (h_qt_NoRow_in_NoHands : PySem.W.kitOne K (.ref c_NoRow) (.ref c_NoHands) = some false)
    (h_qt_NoRow_in_NoSteps : PySem.W.kitOne K (.ref c_NoRow) (.ref c_NoSteps) = some false)
    (h_qt_NoRow_in_NoChange : PySem.W.kitOne K (.ref c_NoRow) (.ref c_NoChange) = some false)
    (h_qt_NoRow_in_RingError : PySem.W.kitOne K (.ref c_NoRow) (.ref c_RingError) = some true)
    (h_qt_NoRow_in_VE : PySem.W.kitOne K (.ref c_NoRow) (.type "ValueError") = some true)
    (h_sr_NoRow : PySem.W.subIn K (.ref c_NoRow) (.ref c_RingError) = some true)
    (h_ecg_NoRow : PySem.W.findIn K (.ref c_NoRow) "__getattribute__" = some (some (.builtin "BaseException.__getattribute__")))
    (h_eck_NoRow : PySem.W.findIn K (.ref c_NoRow) "__getattr__" = some none)
    (h_hd_NoRow : PySem.W.hasDictIn K c_NoRow = true)
    (h_eca_NoRow : PySem.W.findIn K (.ref c_NoRow) "__class__" = some (some (.builtin "object.__class__")))
    (h_ecm_NoRow : PySem.W.mroIn K c_NoRow (.type "object") = some true)
    (h_qt_NoName_in_NoForm : PySem.W.kitOne K (.ref c_NoName) (.ref c_NoForm) = some false)
    (h_qt_NoName_in_NoCounter : PySem.W.kitOne K (.ref c_NoName) (.ref c_NoCounter) = some false)
    (h_qt_NoName_in_NoSize : PySem.W.kitOne K (.ref c_NoName) (.ref c_NoSize) = some false)
    (h_qt_NoName_in_NoRing : PySem.W.kitOne K (.ref c_NoName) (.ref c_NoRing) = some false)
    (h_qt_NoName_in_Outside : PySem.W.kitOne K (.ref c_NoName) (.ref c_Outside) = some false)
    (h_qt_NoName_in_NoSet : PySem.W.kitOne K (.ref c_NoName) (.ref c_NoSet) = some false)
    (h_qt_NoName_in_TooLong : PySem.W.kitOne K (.ref c_NoName) (.ref c_TooLong) = some false)
    (h_qt_NoName_in_NotDecided : PySem.W.kitOne K (.ref c_NoName) (.ref c_NotDecided) = some false)
    (h_qt_NoName_in_NoLag : PySem.W.kitOne K (.ref c_NoName) (.ref c_NoLag) = some false)
    (h_qt_NoName_in_NoRow : PySem.W.kitOne K (.ref c_NoName) (.ref c_NoRow) = some false)
    (h_qt_NoName_in_NoName : PySem.W.kitOne K (.ref c_NoName) (.ref c_NoName) = some true)
    (h_qt_NoName_in_Nested : PySem.W.kitOne K (.ref c_NoName) (.ref c_Nested) = some false)
    (h_qt_NoName_in_NoScheme : PySem.W.kitOne K (.ref c_NoName) (.ref c_NoScheme) = some false)
    (h_qt_NoName_in_NoRun : PySem.W.kitOne K (.ref c_NoName) (.ref c_NoRun) = some false)
    (h_qt_NoName_in_NotRight : PySem.W.kitOne K (.ref c_NoName) (.ref c_NotRight) = some false)
    (h_qt_NoName_in_NoHands : PySem.W.kitOne K (.ref c_NoName) (.ref c_NoHands) = some false)
    (h_qt_NoName_in_NoSteps : PySem.W.kitOne K (.ref c_NoName) (.ref c_NoSteps) = some false)
    (h_qt_NoName_in_NoChange : PySem.W.kitOne K (.ref c_NoName) (.ref c_NoChange) = some false)
    (h_qt_NoName_in_RingError : PySem.W.kitOne K (.ref c_NoName) (.ref c_RingError) = some true)
    (h_qt_NoName_in_VE : PySem.W.kitOne K (.ref c_NoName) (.type "ValueError") = some true)
    (h_sr_NoName : PySem.W.subIn K (.ref c_NoName) (.ref c_RingError) = some true)
    (h_ecg_NoName : PySem.W.findIn K (.ref c_NoName) "__getattribute__" = some (some (.builtin "BaseException.__getattribute__")))
    (h_eck_NoName : PySem.W.findIn K (.ref c_NoName) "__getattr__" = some none)
    (h_hd_NoName : PySem.W.hasDictIn K c_NoName = true)
    (h_eca_NoName : PySem.W.findIn K (.ref c_NoName) "__class__" = some (some (.builtin "object.__class__")))
    (h_ecm_NoName : PySem.W.mroIn K c_NoName (.type "object") = some true)
    (h_qt_Nested_in_NoForm : PySem.W.kitOne K (.ref c_Nested) (.ref c_NoForm) = some false)
    (h_qt_Nested_in_NoCounter : PySem.W.kitOne K (.ref c_Nested) (.ref c_NoCounter) = some false)
    (h_qt_Nested_in_NoSize : PySem.W.kitOne K (.ref c_Nested) (.ref c_NoSize) = some false)
    (h_qt_Nested_in_NoRing : PySem.W.kitOne K (.ref c_Nested) (.ref c_NoRing) = some false)
    (h_qt_Nested_in_Outside : PySem.W.kitOne K (.ref c_Nested) (.ref c_Outside) = some false)
    (h_qt_Nested_in_NoSet : PySem.W.kitOne K (.ref c_Nested) (.ref c_NoSet) = some false)
    (h_qt_Nested_in_TooLong : PySem.W.kitOne K (.ref c_Nested) (.ref c_TooLong) = some false)
    (h_qt_Nested_in_NotDecided : PySem.W.kitOne K (.ref c_Nested) (.ref c_NotDecided) = some false)
    (h_qt_Nested_in_NoLag : PySem.W.kitOne K (.ref c_Nested) (.ref c_NoLag) = some false)
    (h_qt_Nested_in_NoRow : PySem.W.kitOne K (.ref c_Nested) (.ref c_NoRow) = some false)
    (h_qt_Nested_in_NoName : PySem.W.kitOne K (.ref c_Nested) (.ref c_NoName) = some false)
    (h_qt_Nested_in_Nested : PySem.W.kitOne K (.ref c_Nested) (.ref c_Nested) = some true)
    (h_qt_Nested_in_NoScheme : PySem.W.kitOne K (.ref c_Nested) (.ref c_NoScheme) = some false)
    (h_qt_Nested_in_NoRun : PySem.W.kitOne K (.ref c_Nested) (.ref c_NoRun) = some false)
    (h_qt_Nested_in_NotRight : PySem.W.kitOne K (.ref c_Nested) (.ref c_NotRight) = some false)
    (h_qt_Nested_in_NoHands : PySem.W.kitOne K (.ref c_Nested) (.ref c_NoHands) = some false)
    (h_qt_Nested_in_NoSteps : PySem.W.kitOne K (.ref c_Nested) (.ref c_NoSteps) = some false)
    (h_qt_Nested_in_NoChange : PySem.W.kitOne K (.ref c_Nested) (.ref c_NoChange) = some false)
    (h_qt_Nested_in_RingError : PySem.W.kitOne K (.ref c_Nested) (.ref c_RingError) = some true)
    (h_qt_Nested_in_VE : PySem.W.kitOne K (.ref c_Nested) (.type "ValueError") = some true)
    (h_sr_Nested : PySem.W.subIn K (.ref c_Nested) (.ref c_RingError) = some true)
    (h_ecg_Nested : PySem.W.findIn K (.ref c_Nested) "__getattribute__" = some (some (.builtin "BaseException.__getattribute__")))
    (h_eck_Nested : PySem.W.findIn K (.ref c_Nested) "__getattr__" = some none)
    (h_hd_Nested : PySem.W.hasDictIn K c_Nested = true)
    (h_eca_Nested : PySem.W.findIn K (.ref c_Nested) "__class__" = some (some (.builtin "object.__class__")))
    (h_ecm_Nested : PySem.W.mroIn K c_Nested (.type "object") = some true)
    (h_qt_NoScheme_in_NoForm : PySem.W.kitOne K (.ref c_NoScheme) (.ref c_NoForm) = some false)
    (h_qt_NoScheme_in_NoCounter : PySem.W.kitOne K (.ref c_NoScheme) (.ref c_NoCounter) = some false)
    (h_qt_NoScheme_in_NoSize : PySem.W.kitOne K (.ref c_NoScheme) (.ref c_NoSize) = some false)
    (h_qt_NoScheme_in_NoRing : PySem.W.kitOne K (.ref c_NoScheme) (.ref c_NoRing) = some false)
    (h_qt_NoScheme_in_Outside : PySem.W.kitOne K (.ref c_NoScheme) (.ref c_Outside) = some false)
    (h_qt_NoScheme_in_NoSet : PySem.W.kitOne K (.ref c_NoScheme) (.ref c_NoSet) = some false)
    (h_qt_NoScheme_in_TooLong : PySem.W.kitOne K (.ref c_NoScheme) (.ref c_TooLong) = some false)
    (h_qt_NoScheme_in_NotDecided : PySem.W.kitOne K (.ref c_NoScheme) (.ref c_NotDecided) = some false)
    (h_qt_NoScheme_in_NoLag : PySem.W.kitOne K (.ref c_NoScheme) (.ref c_NoLag) = some false)
    (h_qt_NoScheme_in_NoRow : PySem.W.kitOne K (.ref c_NoScheme) (.ref c_NoRow) = some false)
    (h_qt_NoScheme_in_NoName : PySem.W.kitOne K (.ref c_NoScheme) (.ref c_NoName) = some false)
    (h_qt_NoScheme_in_Nested : PySem.W.kitOne K (.ref c_NoScheme) (.ref c_Nested) = some false)
    (h_qt_NoScheme_in_NoScheme : PySem.W.kitOne K (.ref c_NoScheme) (.ref c_NoScheme) = some true)
    (h_qt_NoScheme_in_NoRun : PySem.W.kitOne K (.ref c_NoScheme) (.ref c_NoRun) = some false)
    (h_qt_NoScheme_in_NotRight : PySem.W.kitOne K (.ref c_NoScheme) (.ref c_NotRight) = some false)
    (h_qt_NoScheme_in_NoHands : PySem.W.kitOne K (.ref c_NoScheme) (.ref c_NoHands) = some false)
    (h_qt_NoScheme_in_NoSteps : PySem.W.kitOne K (.ref c_NoScheme) (.ref c_NoSteps) = some false)
    (h_qt_NoScheme_in_NoChange : PySem.W.kitOne K (.ref c_NoScheme) (.ref c_NoChange) = some false)
    (h_qt_NoScheme_in_RingError : PySem.W.kitOne K (.ref c_NoScheme) (.ref c_RingError) = some true)
    (h_qt_NoScheme_in_VE : PySem.W.kitOne K (.ref c_NoScheme) (.type "ValueError") = some true)
    (h_sr_NoScheme : PySem.W.subIn K (.ref c_NoScheme) (.ref c_RingError) = some true)
    (h_ecg_NoScheme : PySem.W.findIn K (.ref c_NoScheme) "__getattribute__" = some (some (.builtin "BaseException.__getattribute__")))
    (h_eck_NoScheme : PySem.W.findIn K (.ref c_NoScheme) "__getattr__" = some none)
    (h_sb_NoScheme : PySem.W.subIn K (.ref c_NoScheme) (.type "BaseException") = some true)
    (h_hd_NoScheme : PySem.W.hasDictIn K c_NoScheme = true)
    (h_eca_NoScheme : PySem.W.findIn K (.ref c_NoScheme) "__class__" = some (some (.builtin "object.__class__")))
    (h_ecm_NoScheme : PySem.W.mroIn K c_NoScheme (.type "object") = some true)
    (h_qt_NoRun_in_NoForm : PySem.W.kitOne K (.ref c_NoRun) (.ref c_NoForm) = some false)
    (h_qt_NoRun_in_NoCounter : PySem.W.kitOne K (.ref c_NoRun) (.ref c_NoCounter) = some false)
    (h_qt_NoRun_in_NoSize : PySem.W.kitOne K (.ref c_NoRun) (.ref c_NoSize) = some false)
    (h_qt_NoRun_in_NoRing : PySem.W.kitOne K (.ref c_NoRun) (.ref c_NoRing) = some false)
    (h_qt_NoRun_in_Outside : PySem.W.kitOne K (.ref c_NoRun) (.ref c_Outside) = some false)
    (h_qt_NoRun_in_NoSet : PySem.W.kitOne K (.ref c_NoRun) (.ref c_NoSet) = some false)
    (h_qt_NoRun_in_TooLong : PySem.W.kitOne K (.ref c_NoRun) (.ref c_TooLong) = some false)
    (h_qt_NoRun_in_NotDecided : PySem.W.kitOne K (.ref c_NoRun) (.ref c_NotDecided) = some false)
    (h_qt_NoRun_in_NoLag : PySem.W.kitOne K (.ref c_NoRun) (.ref c_NoLag) = some false)
    (h_qt_NoRun_in_NoRow : PySem.W.kitOne K (.ref c_NoRun) (.ref c_NoRow) = some false)
    (h_qt_NoRun_in_NoName : PySem.W.kitOne K (.ref c_NoRun) (.ref c_NoName) = some false)
    (h_qt_NoRun_in_Nested : PySem.W.kitOne K (.ref c_NoRun) (.ref c_Nested) = some false)
    (h_qt_NoRun_in_NoScheme : PySem.W.kitOne K (.ref c_NoRun) (.ref c_NoScheme) = some false)
    (h_qt_NoRun_in_NoRun : PySem.W.kitOne K (.ref c_NoRun) (.ref c_NoRun) = some true)
    (h_qt_NoRun_in_NotRight : PySem.W.kitOne K (.ref c_NoRun) (.ref c_NotRight) = some false)
    (h_qt_NoRun_in_NoHands : PySem.W.kitOne K (.ref c_NoRun) (.ref c_NoHands) = some false)
    (h_qt_NoRun_in_NoSteps : PySem.W.kitOne K (.ref c_NoRun) (.ref c_NoSteps) = some false)
    (h_qt_NoRun_in_NoChange : PySem.W.kitOne K (.ref c_NoRun) (.ref c_NoChange) = some false)
    (h_qt_NoRun_in_RingError : PySem.W.kitOne K (.ref c_NoRun) (.ref c_RingError) = some true)
    (h_qt_NoRun_in_VE : PySem.W.kitOne K (.ref c_NoRun) (.type "ValueError") = some true)
    (h_sr_NoRun : PySem.W.subIn K (.ref c_NoRun) (.ref c_RingError) = some true)
    (h_ecg_NoRun : PySem.W.findIn K (.ref c_NoRun) "__getattribute__" = some (some (.builtin "BaseException.__getattribute__")))
    (h_eck_NoRun : PySem.W.findIn K (.ref c_NoRun) "__getattr__" = some none)
    (h_sb_NoRun : PySem.W.subIn K (.ref c_NoRun) (.type "BaseException") = some true)
    (h_hd_NoRun : PySem.W.hasDictIn K c_NoRun = true)
    (h_eca_NoRun : PySem.W.findIn K (.ref c_NoRun) "__class__" = some (some (.builtin "object.__class__")))
    (h_ecm_NoRun : PySem.W.mroIn K c_NoRun (.type "object") = some true)
    (h_qt_NotRight_in_NoForm : PySem.W.kitOne K (.ref c_NotRight) (.ref c_NoForm) = some false)
    (h_qt_NotRight_in_NoCounter : PySem.W.kitOne K (.ref c_NotRight) (.ref c_NoCounter) = some false)
    (h_qt_NotRight_in_NoSize : PySem.W.kitOne K (.ref c_NotRight) (.ref c_NoSize) = some false)
    (h_qt_NotRight_in_NoRing : PySem.W.kitOne K (.ref c_NotRight) (.ref c_NoRing) = some false)
    (h_qt_NotRight_in_Outside : PySem.W.kitOne K (.ref c_NotRight) (.ref c_Outside) = some false)
    (h_qt_NotRight_in_NoSet : PySem.W.kitOne K (.ref c_NotRight) (.ref c_NoSet) = some false)
    (h_qt_NotRight_in_TooLong : PySem.W.kitOne K (.ref c_NotRight) (.ref c_TooLong) = some false)
    (h_qt_NotRight_in_NotDecided : PySem.W.kitOne K (.ref c_NotRight) (.ref c_NotDecided) = some false)
    (h_qt_NotRight_in_NoLag : PySem.W.kitOne K (.ref c_NotRight) (.ref c_NoLag) = some false)
    (h_qt_NotRight_in_NoRow : PySem.W.kitOne K (.ref c_NotRight) (.ref c_NoRow) = some false)
    (h_qt_NotRight_in_NoName : PySem.W.kitOne K (.ref c_NotRight) (.ref c_NoName) = some false)
    (h_qt_NotRight_in_Nested : PySem.W.kitOne K (.ref c_NotRight) (.ref c_Nested) = some false)
    (h_qt_NotRight_in_NoScheme : PySem.W.kitOne K (.ref c_NotRight) (.ref c_NoScheme) = some false)
    (h_qt_NotRight_in_NoRun : PySem.W.kitOne K (.ref c_NotRight) (.ref c_NoRun) = some false)
    (h_qt_NotRight_in_NotRight : PySem.W.kitOne K (.ref c_NotRight) (.ref c_NotRight) = some true)
    (h_qt_NotRight_in_NoHands : PySem.W.kitOne K (.ref c_NotRight) (.ref c_NoHands) = some false)
    (h_qt_NotRight_in_NoSteps : PySem.W.kitOne K (.ref c_NotRight) (.ref c_NoSteps) = some false)
    (h_qt_NotRight_in_NoChange : PySem.W.kitOne K (.ref c_NotRight) (.ref c_NoChange) = some false)
    (h_qt_NotRight_in_RingError : PySem.W.kitOne K (.ref c_NotRight) (.ref c_RingError) = some true)
    (h_qt_NotRight_in_VE : PySem.W.kitOne K (.ref c_NotRight) (.type "ValueError") = some true)
    (h_sr_NotRight : PySem.W.subIn K (.ref c_NotRight) (.ref c_RingError) = some true)
    (h_ecg_NotRight : PySem.W.findIn K (.ref c_NotRight) "__getattribute__" = some (some (.builtin "BaseException.__getattribute__")))
    (h_eck_NotRight : PySem.W.findIn K (.ref c_NotRight) "__getattr__" = some none)
    (h_sb_NotRight : PySem.W.subIn K (.ref c_NotRight) (.type "BaseException") = some true)
    (h_hd_NotRight : PySem.W.hasDictIn K c_NotRight = true)
    (h_eca_NotRight : PySem.W.findIn K (.ref c_NotRight) "__class__" = some (some (.builtin "object.__class__")))
    (h_ecm_NotRight : PySem.W.mroIn K c_NotRight (.type "object") = some true)
    (h_qt_NoHands_in_NoForm : PySem.W.kitOne K (.ref c_NoHands) (.ref c_NoForm) = some false)
    (h_qt_NoHands_in_NoCounter : PySem.W.kitOne K (.ref c_NoHands) (.ref c_NoCounter) = some false)
    (h_qt_NoHands_in_NoSize : PySem.W.kitOne K (.ref c_NoHands) (.ref c_NoSize) = some false)
    (h_qt_NoHands_in_NoRing : PySem.W.kitOne K (.ref c_NoHands) (.ref c_NoRing) = some false)
    (h_qt_NoHands_in_Outside : PySem.W.kitOne K (.ref c_NoHands) (.ref c_Outside) = some false)
    (h_qt_NoHands_in_NoSet : PySem.W.kitOne K (.ref c_NoHands) (.ref c_NoSet) = some false)
    (h_qt_NoHands_in_TooLong : PySem.W.kitOne K (.ref c_NoHands) (.ref c_TooLong) = some false)
    (h_qt_NoHands_in_NotDecided : PySem.W.kitOne K (.ref c_NoHands) (.ref c_NotDecided) = some false)
    (h_qt_NoHands_in_NoLag : PySem.W.kitOne K (.ref c_NoHands) (.ref c_NoLag) = some false)
    (h_qt_NoHands_in_NoRow : PySem.W.kitOne K (.ref c_NoHands) (.ref c_NoRow) = some false)
    (h_qt_NoHands_in_NoName : PySem.W.kitOne K (.ref c_NoHands) (.ref c_NoName) = some false)
    (h_qt_NoHands_in_Nested : PySem.W.kitOne K (.ref c_NoHands) (.ref c_Nested) = some false)
    (h_qt_NoHands_in_NoScheme : PySem.W.kitOne K (.ref c_NoHands) (.ref c_NoScheme) = some false)
    (h_qt_NoHands_in_NoRun : PySem.W.kitOne K (.ref c_NoHands) (.ref c_NoRun) = some false)
    (h_qt_NoHands_in_NotRight : PySem.W.kitOne K (.ref c_NoHands) (.ref c_NotRight) = some false)
    (h_qt_NoHands_in_NoHands : PySem.W.kitOne K (.ref c_NoHands) (.ref c_NoHands) = some true)
    (h_qt_NoHands_in_NoSteps : PySem.W.kitOne K (.ref c_NoHands) (.ref c_NoSteps) = some false)
    (h_qt_NoHands_in_NoChange : PySem.W.kitOne K (.ref c_NoHands) (.ref c_NoChange) = some false)
    (h_qt_NoHands_in_RingError : PySem.W.kitOne K (.ref c_NoHands) (.ref c_RingError) = some true)
    (h_qt_NoHands_in_VE : PySem.W.kitOne K (.ref c_NoHands) (.type "ValueError") = some true)
    (h_sr_NoHands : PySem.W.subIn K (.ref c_NoHands) (.ref c_RingError) = some true)
    (h_ecg_NoHands : PySem.W.findIn K (.ref c_NoHands) "__getattribute__" = some (some (.builtin "BaseException.__getattribute__")))
    (h_eck_NoHands : PySem.W.findIn K (.ref c_NoHands) "__getattr__" = some none)
    (h_sb_NoHands : PySem.W.subIn K (.ref c_NoHands) (.type "BaseException") = some true)
    (h_hd_NoHands : PySem.W.hasDictIn K c_NoHands = true)
    (h_eca_NoHands : PySem.W.findIn K (.ref c_NoHands) "__class__" = some (some (.builtin "object.__class__")))
    (h_ecm_NoHands : PySem.W.mroIn K c_NoHands (.type "object") = some true)
    (h_qt_NoSteps_in_NoForm : PySem.W.kitOne K (.ref c_NoSteps) (.ref c_NoForm) = some false)
    (h_qt_NoSteps_in_NoCounter : PySem.W.kitOne K (.ref c_NoSteps) (.ref c_NoCounter) = some false)
    (h_qt_NoSteps_in_NoSize : PySem.W.kitOne K (.ref c_NoSteps) (.ref c_NoSize) = some false)
    (h_qt_NoSteps_in_NoRing : PySem.W.kitOne K (.ref c_NoSteps) (.ref c_NoRing) = some false)
    (h_qt_NoSteps_in_Outside : PySem.W.kitOne K (.ref c_NoSteps) (.ref c_Outside) = some false)
    (h_qt_NoSteps_in_NoSet : PySem.W.kitOne K (.ref c_NoSteps) (.ref c_NoSet) = some false)
    (h_qt_NoSteps_in_TooLong : PySem.W.kitOne K (.ref c_NoSteps) (.ref c_TooLong) = some false)
    (h_qt_NoSteps_in_NotDecided : PySem.W.kitOne K (.ref c_NoSteps) (.ref c_NotDecided) = some false)
    (h_qt_NoSteps_in_NoLag : PySem.W.kitOne K (.ref c_NoSteps) (.ref c_NoLag) = some false)
    (h_qt_NoSteps_in_NoRow : PySem.W.kitOne K (.ref c_NoSteps) (.ref c_NoRow) = some false)
    (h_qt_NoSteps_in_NoName : PySem.W.kitOne K (.ref c_NoSteps) (.ref c_NoName) = some false)
    (h_qt_NoSteps_in_Nested : PySem.W.kitOne K (.ref c_NoSteps) (.ref c_Nested) = some false)
    (h_qt_NoSteps_in_NoScheme : PySem.W.kitOne K (.ref c_NoSteps) (.ref c_NoScheme) = some false)
    (h_qt_NoSteps_in_NoRun : PySem.W.kitOne K (.ref c_NoSteps) (.ref c_NoRun) = some false)
    (h_qt_NoSteps_in_NotRight : PySem.W.kitOne K (.ref c_NoSteps) (.ref c_NotRight) = some false)
    (h_qt_NoSteps_in_NoHands : PySem.W.kitOne K (.ref c_NoSteps) (.ref c_NoHands) = some false)
    (h_qt_NoSteps_in_NoSteps : PySem.W.kitOne K (.ref c_NoSteps) (.ref c_NoSteps) = some true)
    (h_qt_NoSteps_in_NoChange : PySem.W.kitOne K (.ref c_NoSteps) (.ref c_NoChange) = some false)
    (h_qt_NoSteps_in_RingError : PySem.W.kitOne K (.ref c_NoSteps) (.ref c_RingError) = some true)
    (h_qt_NoSteps_in_VE : PySem.W.kitOne K (.ref c_NoSteps) (.type "ValueError") = some true)
    (h_sr_NoSteps : PySem.W.subIn K (.ref c_NoSteps) (.ref c_RingError) = some true)
    (h_ecg_NoSteps : PySem.W.findIn K (.ref c_NoSteps) "__getattribute__" = some (some (.builtin "BaseException.__getattribute__")))
    (h_eck_NoSteps : PySem.W.findIn K (.ref c_NoSteps) "__getattr__" = some none)
    (h_sb_NoSteps : PySem.W.subIn K (.ref c_NoSteps) (.type "BaseException") = some true)
    (h_hd_NoSteps : PySem.W.hasDictIn K c_NoSteps = true)
    (h_eca_NoSteps : PySem.W.findIn K (.ref c_NoSteps) "__class__" = some (some (.builtin "object.__class__")))
    (h_ecm_NoSteps : PySem.W.mroIn K c_NoSteps (.type "object") = some true)
    (h_qt_NoChange_in_NoForm : PySem.W.kitOne K (.ref c_NoChange) (.ref c_NoForm) = some false)
    (h_qt_NoChange_in_NoCounter : PySem.W.kitOne K (.ref c_NoChange) (.ref c_NoCounter) = some false)
    (h_qt_NoChange_in_NoSize : PySem.W.kitOne K (.ref c_NoChange) (.ref c_NoSize) = some false)
    (h_qt_NoChange_in_NoRing : PySem.W.kitOne K (.ref c_NoChange) (.ref c_NoRing) = some false)
    (h_qt_NoChange_in_Outside : PySem.W.kitOne K (.ref c_NoChange) (.ref c_Outside) = some false)
    (h_qt_NoChange_in_NoSet : PySem.W.kitOne K (.ref c_NoChange) (.ref c_NoSet) = some false)
    (h_qt_NoChange_in_TooLong : PySem.W.kitOne K (.ref c_NoChange) (.ref c_TooLong) = some false)
    (h_qt_NoChange_in_NotDecided : PySem.W.kitOne K (.ref c_NoChange) (.ref c_NotDecided) = some false)
    (h_qt_NoChange_in_NoLag : PySem.W.kitOne K (.ref c_NoChange) (.ref c_NoLag) = some false)
    (h_qt_NoChange_in_NoRow : PySem.W.kitOne K (.ref c_NoChange) (.ref c_NoRow) = some false)
    (h_qt_NoChange_in_NoName : PySem.W.kitOne K (.ref c_NoChange) (.ref c_NoName) = some false)
    (h_qt_NoChange_in_Nested : PySem.W.kitOne K (.ref c_NoChange) (.ref c_Nested) = some false)
    (h_qt_NoChange_in_NoScheme : PySem.W.kitOne K (.ref c_NoChange) (.ref c_NoScheme) = some false)
    (h_qt_NoChange_in_NoRun : PySem.W.kitOne K (.ref c_NoChange) (.ref c_NoRun) = some false)
    (h_qt_NoChange_in_NotRight : PySem.W.kitOne K (.ref c_NoChange) (.ref c_NotRight) = some false)
    (h_qt_NoChange_in_NoHands : PySem.W.kitOne K (.ref c_NoChange) (.ref c_NoHands) = some false)
    (h_qt_NoChange_in_NoSteps : PySem.W.kitOne K (.ref c_NoChange) (.ref c_NoSteps) = some false)
    (h_qt_NoChange_in_NoChange : PySem.W.kitOne K (.ref c_NoChange) (.ref c_NoChange) = some true)
    (h_qt_NoChange_in_RingError : PySem.W.kitOne K (.ref c_NoChange) (.ref c_RingError) = some true)
    (h_qt_NoChange_in_VE : PySem.W.kitOne K (.ref c_NoChange) (.type "ValueError") = some true)
    (h_sr_NoChange : PySem.W.subIn K (.ref c_NoChange) (.ref c_RingError) = some true)
    (h_ecg_NoChange : PySem.W.findIn K (.ref c_NoChange) "__getattribute__" = some (some (.builtin "BaseException.__getattribute__")))
    (h_eck_NoChange : PySem.W.findIn K (.ref c_NoChange) "__getattr__" = some none)
    (h_sb_NoChange : PySem.W.subIn K (.ref c_NoChange) (.type "BaseException") = some true)
    (h_hd_NoChange : PySem.W.hasDictIn K c_NoChange = true)
    (h_eca_NoChange : PySem.W.findIn K (.ref c_NoChange) "__class__" = some (some (.builtin "object.__class__")))
    (h_ecm_NoChange : PySem.W.mroIn K c_NoChange (.type "object") = some true)
    (h_oq_NoScheme : ExV.oexI K c_NoScheme = true)
    (h_sa_NoScheme : PySem.W.findIn K (.ref c_NoScheme) "__setattr__" = some (some (.builtin "object.__setattr__")))
    (h_tc_NoScheme : PySem.W.typeIn K (.ref c_NoScheme) = some (.type "type"))
    (h_kp_NoScheme : PySem.W.keepIn K (.ref c_NoScheme) = true)
    (h_oi_NoScheme : PySem.W.findIn K (.ref c_NoScheme) "__init__" = some (some (.ref f_NoSchemeu__initu_)))
    (h_ot_NoScheme : PySem.W.typeIn K (.ref f_NoSchemeu__initu_) = some (.type "function"))
    (h_on_NoScheme : PySem.W.findIn K (.ref c_NoScheme) "part" = some none)
    (h_oq_NoRun : ExV.oexI K c_NoRun = true)
    (h_sa_NoRun : PySem.W.findIn K (.ref c_NoRun) "__setattr__" = some (some (.builtin "object.__setattr__")))
    (h_tc_NoRun : PySem.W.typeIn K (.ref c_NoRun) = some (.type "type"))
    (h_kp_NoRun : PySem.W.keepIn K (.ref c_NoRun) = true)
    (h_oi_NoRun : PySem.W.findIn K (.ref c_NoRun) "__init__" = some (some (.ref f_NoRunu__initu_)))
    (h_ot_NoRun : PySem.W.typeIn K (.ref f_NoRunu__initu_) = some (.type "function"))
    (h_on_NoRun : PySem.W.findIn K (.ref c_NoRun) "at" = some none)
    (h_oq_NotRight : ExV.oexI K c_NotRight = true)
    (h_sa_NotRight : PySem.W.findIn K (.ref c_NotRight) "__setattr__" = some (some (.builtin "object.__setattr__")))
    (h_tc_NotRight : PySem.W.typeIn K (.ref c_NotRight) = some (.type "type"))
    (h_kp_NotRight : PySem.W.keepIn K (.ref c_NotRight) = true)
    (h_oi_NotRight : PySem.W.findIn K (.ref c_NotRight) "__init__" = some (some (.ref f_NotRightu__initu_)))
    (h_ot_NotRight : PySem.W.typeIn K (.ref f_NotRightu__initu_) = some (.type "function"))
    (h_on_NotRight : PySem.W.findIn K (.ref c_NotRight) "why" = some none)
    (h_oq_NoHands : ExV.oexI K c_NoHands = true)
    (h_sa_NoHands : PySem.W.findIn K (.ref c_NoHands) "__setattr__" = some (some (.builtin "object.__setattr__")))
    (h_tc_NoHands : PySem.W.typeIn K (.ref c_NoHands) = some (.type "type"))
    (h_kp_NoHands : PySem.W.keepIn K (.ref c_NoHands) = true)
    (h_oi_NoHands : PySem.W.findIn K (.ref c_NoHands) "__init__" = some (some (.ref f_NoHandsu__initu_)))
    (h_ot_NoHands : PySem.W.typeIn K (.ref f_NoHandsu__initu_) = some (.type "function"))
    (h_on_NoHands : PySem.W.findIn K (.ref c_NoHands) "part" = some none)
    (h_oq_NoSteps : ExV.oexI K c_NoSteps = true)
    (h_sa_NoSteps : PySem.W.findIn K (.ref c_NoSteps) "__setattr__" = some (some (.builtin "object.__setattr__")))
    (h_tc_NoSteps : PySem.W.typeIn K (.ref c_NoSteps) = some (.type "type"))
    (h_kp_NoSteps : PySem.W.keepIn K (.ref c_NoSteps) = true)
    (h_oi_NoSteps : PySem.W.findIn K (.ref c_NoSteps) "__init__" = some (some (.ref f_NoStepsu__initu_)))
    (h_ot_NoSteps : PySem.W.typeIn K (.ref f_NoStepsu__initu_) = some (.type "function"))
    (h_on_NoSteps : PySem.W.findIn K (.ref c_NoSteps) "at" = some none)
    (h_oq_NoChange : ExV.oexI K c_NoChange = true)
    (h_sa_NoChange : PySem.W.findIn K (.ref c_NoChange) "__setattr__" = some (some (.builtin "object.__setattr__")))
    (h_tc_NoChange : PySem.W.typeIn K (.ref c_NoChange) = some (.type "type"))
    (h_kp_NoChange : PySem.W.keepIn K (.ref c_NoChange) = true)
    (h_oi_NoChange : PySem.W.findIn K (.ref c_NoChange) "__init__" = some (some (.ref f_NoChangeu__initu_)))
    (h_ot_NoChange : PySem.W.typeIn K (.ref f_NoChangeu__initu_) = some (.type "function"))
    (h_on_NoChange : PySem.W.findIn K (.ref c_NoChange) "at" = some none)
    : ∃ fd : FuncData, (∀ (s : Shared) (v : Value), BindsTo s fd ⟨[v], []⟩ [("_law_script", v)]) ∧ ∀ base : Heap, K.In base → base.Ns mainGlobals mg → FnOk l.prog w K mg base CX0 4 fa fd ["_law_script"] (sp_law K) := by
  have e := hfa.symm.trans (PySem.W.mg_of X G h_m_law)
  cases e
  have T : Txt w K mg ⟨f_NoSchemeu__initu_, fd_NoSchemeu__initu_, f_NoRunu__initu_, fd_NoRunu__initu_, f_NotRightu__initu_, fd_NotRightu__initu_, f_NoHandsu__initu_, fd_NoHandsu__initu_, f_NoStepsu__initu_, fd_NoStepsu__initu_, f_NoChangeu__initu_, fd_NoChangeu__initu_, f_l_cell, fd_l_cell, f_l_parts, fd_l_parts, f_l_of_text, fd_l_of_text, f_l_of_parts, fd_l_of_parts, f_l_flags, fd_l_flags, f_l_kept, fd_l_kept, fa, fd_law, c_NoScheme, c_NoRun, c_NotRight, c_NoHands, c_NoSteps, c_NoChange, c_RingError, c_NoForm, c_NoCounter, c_NoSize, c_NoRing, c_Outside, c_NoSet, c_TooLong, c_NotDecided, c_NoLag, c_NoRow, c_NoName, c_Nested⟩ := {
    n_len := PySem.W.mg_none_of X G h_n_len,
    n_int := PySem.W.mg_none_of X G h_n_int,
    n_range := PySem.W.mg_none_of X G h_n_range,
    n_max := PySem.W.mg_none_of X G h_n_max,
    n_min := PySem.W.mg_none_of X G h_n_min,
    n_isinstance := PySem.W.mg_none_of X G h_n_isinstance,
    n_repr := PySem.W.mg_none_of X G h_n_repr,
    n_str := PySem.W.mg_none_of X G h_n_str,
    n_ValueError := PySem.W.mg_none_of X G h_n_ValueError,
    m_NoForm := PySem.W.mg_of X G h_m_NoForm,
    x_NoForm := h_x_NoForm,
    kp_NoForm := h_kp_NoForm,
    sb_NoForm := h_sb_NoForm,
    tc_NoForm := h_tc_NoForm,
    m_NoCounter := PySem.W.mg_of X G h_m_NoCounter,
    x_NoCounter := h_x_NoCounter,
    kp_NoCounter := h_kp_NoCounter,
    sb_NoCounter := h_sb_NoCounter,
    tc_NoCounter := h_tc_NoCounter,
    m_NoSize := PySem.W.mg_of X G h_m_NoSize,
    x_NoSize := h_x_NoSize,
    kp_NoSize := h_kp_NoSize,
    sb_NoSize := h_sb_NoSize,
    tc_NoSize := h_tc_NoSize,
    m_NoRing := PySem.W.mg_of X G h_m_NoRing,
    x_NoRing := h_x_NoRing,
    kp_NoRing := h_kp_NoRing,
    sb_NoRing := h_sb_NoRing,
    tc_NoRing := h_tc_NoRing,
    m_Outside := PySem.W.mg_of X G h_m_Outside,
    x_Outside := h_x_Outside,
    kp_Outside := h_kp_Outside,
    sb_Outside := h_sb_Outside,
    tc_Outside := h_tc_Outside,
    m_NoSet := PySem.W.mg_of X G h_m_NoSet,
    x_NoSet := h_x_NoSet,
    kp_NoSet := h_kp_NoSet,
    sb_NoSet := h_sb_NoSet,
    tc_NoSet := h_tc_NoSet,
    m_TooLong := PySem.W.mg_of X G h_m_TooLong,
    x_TooLong := h_x_TooLong,
    kp_TooLong := h_kp_TooLong,
    sb_TooLong := h_sb_TooLong,
    tc_TooLong := h_tc_TooLong,
    m_NotDecided := PySem.W.mg_of X G h_m_NotDecided,
    x_NotDecided := h_x_NotDecided,
    kp_NotDecided := h_kp_NotDecided,
    sb_NotDecided := h_sb_NotDecided,
    tc_NotDecided := h_tc_NotDecided,
    m_NoLag := PySem.W.mg_of X G h_m_NoLag,
    x_NoLag := h_x_NoLag,
    kp_NoLag := h_kp_NoLag,
    sb_NoLag := h_sb_NoLag,
    tc_NoLag := h_tc_NoLag,
    m_NoRow := PySem.W.mg_of X G h_m_NoRow,
    x_NoRow := h_x_NoRow,
    kp_NoRow := h_kp_NoRow,
    sb_NoRow := h_sb_NoRow,
    tc_NoRow := h_tc_NoRow,
    m_NoName := PySem.W.mg_of X G h_m_NoName,
    x_NoName := h_x_NoName,
    kp_NoName := h_kp_NoName,
    sb_NoName := h_sb_NoName,
    tc_NoName := h_tc_NoName,
    m_Nested := PySem.W.mg_of X G h_m_Nested,
    x_Nested := h_x_Nested,
    kp_Nested := h_kp_Nested,
    sb_Nested := h_sb_Nested,
    tc_Nested := h_tc_Nested,
    m_NoScheme := PySem.W.mg_of X G h_m_NoScheme,
    m_NoRun := PySem.W.mg_of X G h_m_NoRun,
    m_NotRight := PySem.W.mg_of X G h_m_NotRight,
    m_NoHands := PySem.W.mg_of X G h_m_NoHands,
    m_NoSteps := PySem.W.mg_of X G h_m_NoSteps,
    m_NoChange := PySem.W.mg_of X G h_m_NoChange,
    m_RingError := PySem.W.mg_of X G h_m_RingError,
    F_NoSchemeu__initu_ := Hd.plain h_F_NoSchemeu__initu_,
    b_NoSchemeu__initu_ := (Hd.plain h_F_NoSchemeu__initu_).binds fun _ _ _ _ _ _ us hl => match us, hl with | [_, _], _ => rfl,
    F_NoRunu__initu_ := Hd.plain h_F_NoRunu__initu_,
    b_NoRunu__initu_ := (Hd.plain h_F_NoRunu__initu_).binds fun _ _ _ _ _ _ us hl => match us, hl with | [_, _], _ => rfl,
    F_NotRightu__initu_ := Hd.plain h_F_NotRightu__initu_,
    b_NotRightu__initu_ := (Hd.plain h_F_NotRightu__initu_).binds fun _ _ _ _ _ _ us hl => match us, hl with | [_, _], _ => rfl,
    F_NoHandsu__initu_ := Hd.plain h_F_NoHandsu__initu_,
    b_NoHandsu__initu_ := (Hd.plain h_F_NoHandsu__initu_).binds fun _ _ _ _ _ _ us hl => match us, hl with | [_, _], _ => rfl,
    F_NoStepsu__initu_ := Hd.plain h_F_NoStepsu__initu_,
    b_NoStepsu__initu_ := (Hd.plain h_F_NoStepsu__initu_).binds fun _ _ _ _ _ _ us hl => match us, hl with | [_, _], _ => rfl,
    F_NoChangeu__initu_ := Hd.plain h_F_NoChangeu__initu_,
    b_NoChangeu__initu_ := (Hd.plain h_F_NoChangeu__initu_).binds fun _ _ _ _ _ _ us hl => match us, hl with | [_, _], _ => rfl,
    m_l_cell := PySem.W.mg_of X G h_m_l_cell,
    F_l_cell := Hd.plain h_F_l_cell,
    b_l_cell := (Hd.plain h_F_l_cell).binds fun _ _ _ _ _ _ us hl => match us, hl with | [_, _], _ => rfl,
    m_l_parts := PySem.W.mg_of X G h_m_l_parts,
    F_l_parts := Hd.plain h_F_l_parts,
    b_l_parts := (Hd.plain h_F_l_parts).binds fun _ _ _ _ _ _ us hl => match us, hl with | [_], _ => rfl,
    m_l_of_text := PySem.W.mg_of X G h_m_l_of_text,
    F_l_of_text := Hd.plain h_F_l_of_text,
    b_l_of_text := (Hd.plain h_F_l_of_text).binds fun _ _ _ _ _ _ us hl => match us, hl with | [_], _ => rfl,
    m_l_of_parts := PySem.W.mg_of X G h_m_l_of_parts,
    F_l_of_parts := Hd.plain h_F_l_of_parts,
    b_l_of_parts := (Hd.plain h_F_l_of_parts).binds fun _ _ _ _ _ _ us hl => match us, hl with | [_], _ => rfl,
    m_l_flags := PySem.W.mg_of X G h_m_l_flags,
    F_l_flags := Hd.plain h_F_l_flags,
    b_l_flags := (Hd.plain h_F_l_flags).binds fun _ _ _ _ _ _ us hl => match us, hl with | [_], _ => rfl,
    m_l_kept := PySem.W.mg_of X G h_m_l_kept,
    F_l_kept := Hd.plain h_F_l_kept,
    b_l_kept := (Hd.plain h_F_l_kept).binds fun _ _ _ _ _ _ us hl => match us, hl with | [_], _ => rfl,
    m_law := PySem.W.mg_of X G h_m_law,
    F_law := Hd.plain h_F_law,
    b_law := (Hd.plain h_F_law).binds fun _ _ _ _ _ _ us hl => match us, hl with | [_], _ => rfl,
    qt_NoForm_in_NoForm := h_qt_NoForm_in_NoForm,
    qt_NoForm_in_NoCounter := h_qt_NoForm_in_NoCounter,
    qt_NoForm_in_NoSize := h_qt_NoForm_in_NoSize,
    qt_NoForm_in_NoRing := h_qt_NoForm_in_NoRing,
    qt_NoForm_in_Outside := h_qt_NoForm_in_Outside,
    qt_NoForm_in_NoSet := h_qt_NoForm_in_NoSet,
    qt_NoForm_in_TooLong := h_qt_NoForm_in_TooLong,
    qt_NoForm_in_NotDecided := h_qt_NoForm_in_NotDecided,
    qt_NoForm_in_NoLag := h_qt_NoForm_in_NoLag,
    qt_NoForm_in_NoRow := h_qt_NoForm_in_NoRow,
    qt_NoForm_in_NoName := h_qt_NoForm_in_NoName,
    qt_NoForm_in_Nested := h_qt_NoForm_in_Nested,
    qt_NoForm_in_NoScheme := h_qt_NoForm_in_NoScheme,
    qt_NoForm_in_NoRun := h_qt_NoForm_in_NoRun,
    qt_NoForm_in_NotRight := h_qt_NoForm_in_NotRight,
    qt_NoForm_in_NoHands := h_qt_NoForm_in_NoHands,
    qt_NoForm_in_NoSteps := h_qt_NoForm_in_NoSteps,
    qt_NoForm_in_NoChange := h_qt_NoForm_in_NoChange,
    qt_NoForm_in_RingError := h_qt_NoForm_in_RingError,
    qt_NoForm_in_VE := h_qt_NoForm_in_VE,
    xm_NoForm := PySem.W.exm_ref h_sb_RingError h_hd_RingError h_tc_RingError h_sr_NoForm,
    ec_NoForm := ⟨h_ecg_NoForm, h_eck_NoForm, h_sb_NoForm, h_hd_NoForm, h_eca_NoForm, h_ecn, h_ect, h_ecm_NoForm⟩,
    qt_NoCounter_in_NoForm := h_qt_NoCounter_in_NoForm,
    qt_NoCounter_in_NoCounter := h_qt_NoCounter_in_NoCounter,
    qt_NoCounter_in_NoSize := h_qt_NoCounter_in_NoSize,
    qt_NoCounter_in_NoRing := h_qt_NoCounter_in_NoRing,
    qt_NoCounter_in_Outside := h_qt_NoCounter_in_Outside,
    qt_NoCounter_in_NoSet := h_qt_NoCounter_in_NoSet,
    qt_NoCounter_in_TooLong := h_qt_NoCounter_in_TooLong,
    qt_NoCounter_in_NotDecided := h_qt_NoCounter_in_NotDecided,
    qt_NoCounter_in_NoLag := h_qt_NoCounter_in_NoLag,
    qt_NoCounter_in_NoRow := h_qt_NoCounter_in_NoRow,
    qt_NoCounter_in_NoName := h_qt_NoCounter_in_NoName,
    qt_NoCounter_in_Nested := h_qt_NoCounter_in_Nested,
    qt_NoCounter_in_NoScheme := h_qt_NoCounter_in_NoScheme,
    qt_NoCounter_in_NoRun := h_qt_NoCounter_in_NoRun,
    qt_NoCounter_in_NotRight := h_qt_NoCounter_in_NotRight,
    qt_NoCounter_in_NoHands := h_qt_NoCounter_in_NoHands,
    qt_NoCounter_in_NoSteps := h_qt_NoCounter_in_NoSteps,
    qt_NoCounter_in_NoChange := h_qt_NoCounter_in_NoChange,
    qt_NoCounter_in_RingError := h_qt_NoCounter_in_RingError,
    qt_NoCounter_in_VE := h_qt_NoCounter_in_VE,
    xm_NoCounter := PySem.W.exm_ref h_sb_RingError h_hd_RingError h_tc_RingError h_sr_NoCounter,
    ec_NoCounter := ⟨h_ecg_NoCounter, h_eck_NoCounter, h_sb_NoCounter, h_hd_NoCounter, h_eca_NoCounter, h_ecn, h_ect, h_ecm_NoCounter⟩,
    qt_NoSize_in_NoForm := h_qt_NoSize_in_NoForm,
    qt_NoSize_in_NoCounter := h_qt_NoSize_in_NoCounter,
    qt_NoSize_in_NoSize := h_qt_NoSize_in_NoSize,
    qt_NoSize_in_NoRing := h_qt_NoSize_in_NoRing,
    qt_NoSize_in_Outside := h_qt_NoSize_in_Outside,
    qt_NoSize_in_NoSet := h_qt_NoSize_in_NoSet,
    qt_NoSize_in_TooLong := h_qt_NoSize_in_TooLong,
    qt_NoSize_in_NotDecided := h_qt_NoSize_in_NotDecided,
    qt_NoSize_in_NoLag := h_qt_NoSize_in_NoLag,
    qt_NoSize_in_NoRow := h_qt_NoSize_in_NoRow,
    qt_NoSize_in_NoName := h_qt_NoSize_in_NoName,
    qt_NoSize_in_Nested := h_qt_NoSize_in_Nested,
    qt_NoSize_in_NoScheme := h_qt_NoSize_in_NoScheme,
    qt_NoSize_in_NoRun := h_qt_NoSize_in_NoRun,
    qt_NoSize_in_NotRight := h_qt_NoSize_in_NotRight,
    qt_NoSize_in_NoHands := h_qt_NoSize_in_NoHands,
    qt_NoSize_in_NoSteps := h_qt_NoSize_in_NoSteps,
    qt_NoSize_in_NoChange := h_qt_NoSize_in_NoChange,
    qt_NoSize_in_RingError := h_qt_NoSize_in_RingError,
    qt_NoSize_in_VE := h_qt_NoSize_in_VE,
    xm_NoSize := PySem.W.exm_ref h_sb_RingError h_hd_RingError h_tc_RingError h_sr_NoSize,
    ec_NoSize := ⟨h_ecg_NoSize, h_eck_NoSize, h_sb_NoSize, h_hd_NoSize, h_eca_NoSize, h_ecn, h_ect, h_ecm_NoSize⟩,
    qt_NoRing_in_NoForm := h_qt_NoRing_in_NoForm,
    qt_NoRing_in_NoCounter := h_qt_NoRing_in_NoCounter,
    qt_NoRing_in_NoSize := h_qt_NoRing_in_NoSize,
    qt_NoRing_in_NoRing := h_qt_NoRing_in_NoRing,
    qt_NoRing_in_Outside := h_qt_NoRing_in_Outside,
    qt_NoRing_in_NoSet := h_qt_NoRing_in_NoSet,
    qt_NoRing_in_TooLong := h_qt_NoRing_in_TooLong,
    qt_NoRing_in_NotDecided := h_qt_NoRing_in_NotDecided,
    qt_NoRing_in_NoLag := h_qt_NoRing_in_NoLag,
    qt_NoRing_in_NoRow := h_qt_NoRing_in_NoRow,
    qt_NoRing_in_NoName := h_qt_NoRing_in_NoName,
    qt_NoRing_in_Nested := h_qt_NoRing_in_Nested,
    qt_NoRing_in_NoScheme := h_qt_NoRing_in_NoScheme,
    qt_NoRing_in_NoRun := h_qt_NoRing_in_NoRun,
    qt_NoRing_in_NotRight := h_qt_NoRing_in_NotRight,
    qt_NoRing_in_NoHands := h_qt_NoRing_in_NoHands,
    qt_NoRing_in_NoSteps := h_qt_NoRing_in_NoSteps,
    qt_NoRing_in_NoChange := h_qt_NoRing_in_NoChange,
    qt_NoRing_in_RingError := h_qt_NoRing_in_RingError,
    qt_NoRing_in_VE := h_qt_NoRing_in_VE,
    xm_NoRing := PySem.W.exm_ref h_sb_RingError h_hd_RingError h_tc_RingError h_sr_NoRing,
    ec_NoRing := ⟨h_ecg_NoRing, h_eck_NoRing, h_sb_NoRing, h_hd_NoRing, h_eca_NoRing, h_ecn, h_ect, h_ecm_NoRing⟩,
    qt_Outside_in_NoForm := h_qt_Outside_in_NoForm,
    qt_Outside_in_NoCounter := h_qt_Outside_in_NoCounter,
    qt_Outside_in_NoSize := h_qt_Outside_in_NoSize,
    qt_Outside_in_NoRing := h_qt_Outside_in_NoRing,
    qt_Outside_in_Outside := h_qt_Outside_in_Outside,
    qt_Outside_in_NoSet := h_qt_Outside_in_NoSet,
    qt_Outside_in_TooLong := h_qt_Outside_in_TooLong,
    qt_Outside_in_NotDecided := h_qt_Outside_in_NotDecided,
    qt_Outside_in_NoLag := h_qt_Outside_in_NoLag,
    qt_Outside_in_NoRow := h_qt_Outside_in_NoRow,
    qt_Outside_in_NoName := h_qt_Outside_in_NoName,
    qt_Outside_in_Nested := h_qt_Outside_in_Nested,
    qt_Outside_in_NoScheme := h_qt_Outside_in_NoScheme,
    qt_Outside_in_NoRun := h_qt_Outside_in_NoRun,
    qt_Outside_in_NotRight := h_qt_Outside_in_NotRight,
    qt_Outside_in_NoHands := h_qt_Outside_in_NoHands,
    qt_Outside_in_NoSteps := h_qt_Outside_in_NoSteps,
    qt_Outside_in_NoChange := h_qt_Outside_in_NoChange,
    qt_Outside_in_RingError := h_qt_Outside_in_RingError,
    qt_Outside_in_VE := h_qt_Outside_in_VE,
    xm_Outside := PySem.W.exm_ref h_sb_RingError h_hd_RingError h_tc_RingError h_sr_Outside,
    ec_Outside := ⟨h_ecg_Outside, h_eck_Outside, h_sb_Outside, h_hd_Outside, h_eca_Outside, h_ecn, h_ect, h_ecm_Outside⟩,
    qt_NoSet_in_NoForm := h_qt_NoSet_in_NoForm,
    qt_NoSet_in_NoCounter := h_qt_NoSet_in_NoCounter,
    qt_NoSet_in_NoSize := h_qt_NoSet_in_NoSize,
    qt_NoSet_in_NoRing := h_qt_NoSet_in_NoRing,
    qt_NoSet_in_Outside := h_qt_NoSet_in_Outside,
    qt_NoSet_in_NoSet := h_qt_NoSet_in_NoSet,
    qt_NoSet_in_TooLong := h_qt_NoSet_in_TooLong,
    qt_NoSet_in_NotDecided := h_qt_NoSet_in_NotDecided,
    qt_NoSet_in_NoLag := h_qt_NoSet_in_NoLag,
    qt_NoSet_in_NoRow := h_qt_NoSet_in_NoRow,
    qt_NoSet_in_NoName := h_qt_NoSet_in_NoName,
    qt_NoSet_in_Nested := h_qt_NoSet_in_Nested,
    qt_NoSet_in_NoScheme := h_qt_NoSet_in_NoScheme,
    qt_NoSet_in_NoRun := h_qt_NoSet_in_NoRun,
    qt_NoSet_in_NotRight := h_qt_NoSet_in_NotRight,
    qt_NoSet_in_NoHands := h_qt_NoSet_in_NoHands,
    qt_NoSet_in_NoSteps := h_qt_NoSet_in_NoSteps,
    qt_NoSet_in_NoChange := h_qt_NoSet_in_NoChange,
    qt_NoSet_in_RingError := h_qt_NoSet_in_RingError,
    qt_NoSet_in_VE := h_qt_NoSet_in_VE,
    xm_NoSet := PySem.W.exm_ref h_sb_RingError h_hd_RingError h_tc_RingError h_sr_NoSet,
    ec_NoSet := ⟨h_ecg_NoSet, h_eck_NoSet, h_sb_NoSet, h_hd_NoSet, h_eca_NoSet, h_ecn, h_ect, h_ecm_NoSet⟩,
    qt_TooLong_in_NoForm := h_qt_TooLong_in_NoForm,
    qt_TooLong_in_NoCounter := h_qt_TooLong_in_NoCounter,
    qt_TooLong_in_NoSize := h_qt_TooLong_in_NoSize,
    qt_TooLong_in_NoRing := h_qt_TooLong_in_NoRing,
    qt_TooLong_in_Outside := h_qt_TooLong_in_Outside,
    qt_TooLong_in_NoSet := h_qt_TooLong_in_NoSet,
    qt_TooLong_in_TooLong := h_qt_TooLong_in_TooLong,
    qt_TooLong_in_NotDecided := h_qt_TooLong_in_NotDecided,
    qt_TooLong_in_NoLag := h_qt_TooLong_in_NoLag,
    qt_TooLong_in_NoRow := h_qt_TooLong_in_NoRow,
    qt_TooLong_in_NoName := h_qt_TooLong_in_NoName,
    qt_TooLong_in_Nested := h_qt_TooLong_in_Nested,
    qt_TooLong_in_NoScheme := h_qt_TooLong_in_NoScheme,
    qt_TooLong_in_NoRun := h_qt_TooLong_in_NoRun,
    qt_TooLong_in_NotRight := h_qt_TooLong_in_NotRight,
    qt_TooLong_in_NoHands := h_qt_TooLong_in_NoHands,
    qt_TooLong_in_NoSteps := h_qt_TooLong_in_NoSteps,
    qt_TooLong_in_NoChange := h_qt_TooLong_in_NoChange,
    qt_TooLong_in_RingError := h_qt_TooLong_in_RingError,
    qt_TooLong_in_VE := h_qt_TooLong_in_VE,
    xm_TooLong := PySem.W.exm_ref h_sb_RingError h_hd_RingError h_tc_RingError h_sr_TooLong,
    ec_TooLong := ⟨h_ecg_TooLong, h_eck_TooLong, h_sb_TooLong, h_hd_TooLong, h_eca_TooLong, h_ecn, h_ect, h_ecm_TooLong⟩,
    qt_NotDecided_in_NoForm := h_qt_NotDecided_in_NoForm,
    qt_NotDecided_in_NoCounter := h_qt_NotDecided_in_NoCounter,
    qt_NotDecided_in_NoSize := h_qt_NotDecided_in_NoSize,
    qt_NotDecided_in_NoRing := h_qt_NotDecided_in_NoRing,
    qt_NotDecided_in_Outside := h_qt_NotDecided_in_Outside,
    qt_NotDecided_in_NoSet := h_qt_NotDecided_in_NoSet,
    qt_NotDecided_in_TooLong := h_qt_NotDecided_in_TooLong,
    qt_NotDecided_in_NotDecided := h_qt_NotDecided_in_NotDecided,
    qt_NotDecided_in_NoLag := h_qt_NotDecided_in_NoLag,
    qt_NotDecided_in_NoRow := h_qt_NotDecided_in_NoRow,
    qt_NotDecided_in_NoName := h_qt_NotDecided_in_NoName,
    qt_NotDecided_in_Nested := h_qt_NotDecided_in_Nested,
    qt_NotDecided_in_NoScheme := h_qt_NotDecided_in_NoScheme,
    qt_NotDecided_in_NoRun := h_qt_NotDecided_in_NoRun,
    qt_NotDecided_in_NotRight := h_qt_NotDecided_in_NotRight,
    qt_NotDecided_in_NoHands := h_qt_NotDecided_in_NoHands,
    qt_NotDecided_in_NoSteps := h_qt_NotDecided_in_NoSteps,
    qt_NotDecided_in_NoChange := h_qt_NotDecided_in_NoChange,
    qt_NotDecided_in_RingError := h_qt_NotDecided_in_RingError,
    qt_NotDecided_in_VE := h_qt_NotDecided_in_VE,
    xm_NotDecided := PySem.W.exm_ref h_sb_RingError h_hd_RingError h_tc_RingError h_sr_NotDecided,
    ec_NotDecided := ⟨h_ecg_NotDecided, h_eck_NotDecided, h_sb_NotDecided, h_hd_NotDecided, h_eca_NotDecided, h_ecn, h_ect, h_ecm_NotDecided⟩,
    qt_NoLag_in_NoForm := h_qt_NoLag_in_NoForm,
    qt_NoLag_in_NoCounter := h_qt_NoLag_in_NoCounter,
    qt_NoLag_in_NoSize := h_qt_NoLag_in_NoSize,
    qt_NoLag_in_NoRing := h_qt_NoLag_in_NoRing,
    qt_NoLag_in_Outside := h_qt_NoLag_in_Outside,
    qt_NoLag_in_NoSet := h_qt_NoLag_in_NoSet,
    qt_NoLag_in_TooLong := h_qt_NoLag_in_TooLong,
    qt_NoLag_in_NotDecided := h_qt_NoLag_in_NotDecided,
    qt_NoLag_in_NoLag := h_qt_NoLag_in_NoLag,
    qt_NoLag_in_NoRow := h_qt_NoLag_in_NoRow,
    qt_NoLag_in_NoName := h_qt_NoLag_in_NoName,
    qt_NoLag_in_Nested := h_qt_NoLag_in_Nested,
    qt_NoLag_in_NoScheme := h_qt_NoLag_in_NoScheme,
    qt_NoLag_in_NoRun := h_qt_NoLag_in_NoRun,
    qt_NoLag_in_NotRight := h_qt_NoLag_in_NotRight,
    qt_NoLag_in_NoHands := h_qt_NoLag_in_NoHands,
    qt_NoLag_in_NoSteps := h_qt_NoLag_in_NoSteps,
    qt_NoLag_in_NoChange := h_qt_NoLag_in_NoChange,
    qt_NoLag_in_RingError := h_qt_NoLag_in_RingError,
    qt_NoLag_in_VE := h_qt_NoLag_in_VE,
    xm_NoLag := PySem.W.exm_ref h_sb_RingError h_hd_RingError h_tc_RingError h_sr_NoLag,
    ec_NoLag := ⟨h_ecg_NoLag, h_eck_NoLag, h_sb_NoLag, h_hd_NoLag, h_eca_NoLag, h_ecn, h_ect, h_ecm_NoLag⟩,
    qt_NoRow_in_NoForm := h_qt_NoRow_in_NoForm,
    qt_NoRow_in_NoCounter := h_qt_NoRow_in_NoCounter,
    qt_NoRow_in_NoSize := h_qt_NoRow_in_NoSize,
    qt_NoRow_in_NoRing := h_qt_NoRow_in_NoRing,
    qt_NoRow_in_Outside := h_qt_NoRow_in_Outside,
    qt_NoRow_in_NoSet := h_qt_NoRow_in_NoSet,
    qt_NoRow_in_TooLong := h_qt_NoRow_in_TooLong,
    qt_NoRow_in_NotDecided := h_qt_NoRow_in_NotDecided,
    qt_NoRow_in_NoLag := h_qt_NoRow_in_NoLag,
    qt_NoRow_in_NoRow := h_qt_NoRow_in_NoRow,
    qt_NoRow_in_NoName := h_qt_NoRow_in_NoName,
    qt_NoRow_in_Nested := h_qt_NoRow_in_Nested,
    qt_NoRow_in_NoScheme := h_qt_NoRow_in_NoScheme,
    qt_NoRow_in_NoRun := h_qt_NoRow_in_NoRun,
    qt_NoRow_in_NotRight := h_qt_NoRow_in_NotRight,
    qt_NoRow_in_NoHands := h_qt_NoRow_in_NoHands,
    qt_NoRow_in_NoSteps := h_qt_NoRow_in_NoSteps,
    qt_NoRow_in_NoChange := h_qt_NoRow_in_NoChange,
    qt_NoRow_in_RingError := h_qt_NoRow_in_RingError,
    qt_NoRow_in_VE := h_qt_NoRow_in_VE,
    xm_NoRow := PySem.W.exm_ref h_sb_RingError h_hd_RingError h_tc_RingError h_sr_NoRow,
    ec_NoRow := ⟨h_ecg_NoRow, h_eck_NoRow, h_sb_NoRow, h_hd_NoRow, h_eca_NoRow, h_ecn, h_ect, h_ecm_NoRow⟩,
    qt_NoName_in_NoForm := h_qt_NoName_in_NoForm,
    qt_NoName_in_NoCounter := h_qt_NoName_in_NoCounter,
    qt_NoName_in_NoSize := h_qt_NoName_in_NoSize,
    qt_NoName_in_NoRing := h_qt_NoName_in_NoRing,
    qt_NoName_in_Outside := h_qt_NoName_in_Outside,
    qt_NoName_in_NoSet := h_qt_NoName_in_NoSet,
    qt_NoName_in_TooLong := h_qt_NoName_in_TooLong,
    qt_NoName_in_NotDecided := h_qt_NoName_in_NotDecided,
    qt_NoName_in_NoLag := h_qt_NoName_in_NoLag,
    qt_NoName_in_NoRow := h_qt_NoName_in_NoRow,
    qt_NoName_in_NoName := h_qt_NoName_in_NoName,
    qt_NoName_in_Nested := h_qt_NoName_in_Nested,
    qt_NoName_in_NoScheme := h_qt_NoName_in_NoScheme,
    qt_NoName_in_NoRun := h_qt_NoName_in_NoRun,
    qt_NoName_in_NotRight := h_qt_NoName_in_NotRight,
    qt_NoName_in_NoHands := h_qt_NoName_in_NoHands,
    qt_NoName_in_NoSteps := h_qt_NoName_in_NoSteps,
    qt_NoName_in_NoChange := h_qt_NoName_in_NoChange,
    qt_NoName_in_RingError := h_qt_NoName_in_RingError,
    qt_NoName_in_VE := h_qt_NoName_in_VE,
    xm_NoName := PySem.W.exm_ref h_sb_RingError h_hd_RingError h_tc_RingError h_sr_NoName,
    ec_NoName := ⟨h_ecg_NoName, h_eck_NoName, h_sb_NoName, h_hd_NoName, h_eca_NoName, h_ecn, h_ect, h_ecm_NoName⟩,
    qt_Nested_in_NoForm := h_qt_Nested_in_NoForm,
    qt_Nested_in_NoCounter := h_qt_Nested_in_NoCounter,
    qt_Nested_in_NoSize := h_qt_Nested_in_NoSize,
    qt_Nested_in_NoRing := h_qt_Nested_in_NoRing,
    qt_Nested_in_Outside := h_qt_Nested_in_Outside,
    qt_Nested_in_NoSet := h_qt_Nested_in_NoSet,
    qt_Nested_in_TooLong := h_qt_Nested_in_TooLong,
    qt_Nested_in_NotDecided := h_qt_Nested_in_NotDecided,
    qt_Nested_in_NoLag := h_qt_Nested_in_NoLag,
    qt_Nested_in_NoRow := h_qt_Nested_in_NoRow,
    qt_Nested_in_NoName := h_qt_Nested_in_NoName,
    qt_Nested_in_Nested := h_qt_Nested_in_Nested,
    qt_Nested_in_NoScheme := h_qt_Nested_in_NoScheme,
    qt_Nested_in_NoRun := h_qt_Nested_in_NoRun,
    qt_Nested_in_NotRight := h_qt_Nested_in_NotRight,
    qt_Nested_in_NoHands := h_qt_Nested_in_NoHands,
    qt_Nested_in_NoSteps := h_qt_Nested_in_NoSteps,
    qt_Nested_in_NoChange := h_qt_Nested_in_NoChange,
    qt_Nested_in_RingError := h_qt_Nested_in_RingError,
    qt_Nested_in_VE := h_qt_Nested_in_VE,
    xm_Nested := PySem.W.exm_ref h_sb_RingError h_hd_RingError h_tc_RingError h_sr_Nested,
    ec_Nested := ⟨h_ecg_Nested, h_eck_Nested, h_sb_Nested, h_hd_Nested, h_eca_Nested, h_ecn, h_ect, h_ecm_Nested⟩,
    qt_NoScheme_in_NoForm := h_qt_NoScheme_in_NoForm,
    qt_NoScheme_in_NoCounter := h_qt_NoScheme_in_NoCounter,
    qt_NoScheme_in_NoSize := h_qt_NoScheme_in_NoSize,
    qt_NoScheme_in_NoRing := h_qt_NoScheme_in_NoRing,
    qt_NoScheme_in_Outside := h_qt_NoScheme_in_Outside,
    qt_NoScheme_in_NoSet := h_qt_NoScheme_in_NoSet,
    qt_NoScheme_in_TooLong := h_qt_NoScheme_in_TooLong,
    qt_NoScheme_in_NotDecided := h_qt_NoScheme_in_NotDecided,
    qt_NoScheme_in_NoLag := h_qt_NoScheme_in_NoLag,
    qt_NoScheme_in_NoRow := h_qt_NoScheme_in_NoRow,
    qt_NoScheme_in_NoName := h_qt_NoScheme_in_NoName,
    qt_NoScheme_in_Nested := h_qt_NoScheme_in_Nested,
    qt_NoScheme_in_NoScheme := h_qt_NoScheme_in_NoScheme,
    qt_NoScheme_in_NoRun := h_qt_NoScheme_in_NoRun,
    qt_NoScheme_in_NotRight := h_qt_NoScheme_in_NotRight,
    qt_NoScheme_in_NoHands := h_qt_NoScheme_in_NoHands,
    qt_NoScheme_in_NoSteps := h_qt_NoScheme_in_NoSteps,
    qt_NoScheme_in_NoChange := h_qt_NoScheme_in_NoChange,
    qt_NoScheme_in_RingError := h_qt_NoScheme_in_RingError,
    qt_NoScheme_in_VE := h_qt_NoScheme_in_VE,
    xm_NoScheme := PySem.W.exm_ref h_sb_RingError h_hd_RingError h_tc_RingError h_sr_NoScheme,
    ec_NoScheme := ⟨h_ecg_NoScheme, h_eck_NoScheme, h_sb_NoScheme, h_hd_NoScheme, h_eca_NoScheme, h_ecn, h_ect, h_ecm_NoScheme⟩,
    qt_NoRun_in_NoForm := h_qt_NoRun_in_NoForm,
    qt_NoRun_in_NoCounter := h_qt_NoRun_in_NoCounter,
    qt_NoRun_in_NoSize := h_qt_NoRun_in_NoSize,
    qt_NoRun_in_NoRing := h_qt_NoRun_in_NoRing,
    qt_NoRun_in_Outside := h_qt_NoRun_in_Outside,
    qt_NoRun_in_NoSet := h_qt_NoRun_in_NoSet,
    qt_NoRun_in_TooLong := h_qt_NoRun_in_TooLong,
    qt_NoRun_in_NotDecided := h_qt_NoRun_in_NotDecided,
    qt_NoRun_in_NoLag := h_qt_NoRun_in_NoLag,
    qt_NoRun_in_NoRow := h_qt_NoRun_in_NoRow,
    qt_NoRun_in_NoName := h_qt_NoRun_in_NoName,
    qt_NoRun_in_Nested := h_qt_NoRun_in_Nested,
    qt_NoRun_in_NoScheme := h_qt_NoRun_in_NoScheme,
    qt_NoRun_in_NoRun := h_qt_NoRun_in_NoRun,
    qt_NoRun_in_NotRight := h_qt_NoRun_in_NotRight,
    qt_NoRun_in_NoHands := h_qt_NoRun_in_NoHands,
    qt_NoRun_in_NoSteps := h_qt_NoRun_in_NoSteps,
    qt_NoRun_in_NoChange := h_qt_NoRun_in_NoChange,
    qt_NoRun_in_RingError := h_qt_NoRun_in_RingError,
    qt_NoRun_in_VE := h_qt_NoRun_in_VE,
    xm_NoRun := PySem.W.exm_ref h_sb_RingError h_hd_RingError h_tc_RingError h_sr_NoRun,
    ec_NoRun := ⟨h_ecg_NoRun, h_eck_NoRun, h_sb_NoRun, h_hd_NoRun, h_eca_NoRun, h_ecn, h_ect, h_ecm_NoRun⟩,
    qt_NotRight_in_NoForm := h_qt_NotRight_in_NoForm,
    qt_NotRight_in_NoCounter := h_qt_NotRight_in_NoCounter,
    qt_NotRight_in_NoSize := h_qt_NotRight_in_NoSize,
    qt_NotRight_in_NoRing := h_qt_NotRight_in_NoRing,
    qt_NotRight_in_Outside := h_qt_NotRight_in_Outside,
    qt_NotRight_in_NoSet := h_qt_NotRight_in_NoSet,
    qt_NotRight_in_TooLong := h_qt_NotRight_in_TooLong,
    qt_NotRight_in_NotDecided := h_qt_NotRight_in_NotDecided,
    qt_NotRight_in_NoLag := h_qt_NotRight_in_NoLag,
    qt_NotRight_in_NoRow := h_qt_NotRight_in_NoRow,
    qt_NotRight_in_NoName := h_qt_NotRight_in_NoName,
    qt_NotRight_in_Nested := h_qt_NotRight_in_Nested,
    qt_NotRight_in_NoScheme := h_qt_NotRight_in_NoScheme,
    qt_NotRight_in_NoRun := h_qt_NotRight_in_NoRun,
    qt_NotRight_in_NotRight := h_qt_NotRight_in_NotRight,
    qt_NotRight_in_NoHands := h_qt_NotRight_in_NoHands,
    qt_NotRight_in_NoSteps := h_qt_NotRight_in_NoSteps,
    qt_NotRight_in_NoChange := h_qt_NotRight_in_NoChange,
    qt_NotRight_in_RingError := h_qt_NotRight_in_RingError,
    qt_NotRight_in_VE := h_qt_NotRight_in_VE,
    xm_NotRight := PySem.W.exm_ref h_sb_RingError h_hd_RingError h_tc_RingError h_sr_NotRight,
    ec_NotRight := ⟨h_ecg_NotRight, h_eck_NotRight, h_sb_NotRight, h_hd_NotRight, h_eca_NotRight, h_ecn, h_ect, h_ecm_NotRight⟩,
    qt_NoHands_in_NoForm := h_qt_NoHands_in_NoForm,
    qt_NoHands_in_NoCounter := h_qt_NoHands_in_NoCounter,
    qt_NoHands_in_NoSize := h_qt_NoHands_in_NoSize,
    qt_NoHands_in_NoRing := h_qt_NoHands_in_NoRing,
    qt_NoHands_in_Outside := h_qt_NoHands_in_Outside,
    qt_NoHands_in_NoSet := h_qt_NoHands_in_NoSet,
    qt_NoHands_in_TooLong := h_qt_NoHands_in_TooLong,
    qt_NoHands_in_NotDecided := h_qt_NoHands_in_NotDecided,
    qt_NoHands_in_NoLag := h_qt_NoHands_in_NoLag,
    qt_NoHands_in_NoRow := h_qt_NoHands_in_NoRow,
    qt_NoHands_in_NoName := h_qt_NoHands_in_NoName,
    qt_NoHands_in_Nested := h_qt_NoHands_in_Nested,
    qt_NoHands_in_NoScheme := h_qt_NoHands_in_NoScheme,
    qt_NoHands_in_NoRun := h_qt_NoHands_in_NoRun,
    qt_NoHands_in_NotRight := h_qt_NoHands_in_NotRight,
    qt_NoHands_in_NoHands := h_qt_NoHands_in_NoHands,
    qt_NoHands_in_NoSteps := h_qt_NoHands_in_NoSteps,
    qt_NoHands_in_NoChange := h_qt_NoHands_in_NoChange,
    qt_NoHands_in_RingError := h_qt_NoHands_in_RingError,
    qt_NoHands_in_VE := h_qt_NoHands_in_VE,
    xm_NoHands := PySem.W.exm_ref h_sb_RingError h_hd_RingError h_tc_RingError h_sr_NoHands,
    ec_NoHands := ⟨h_ecg_NoHands, h_eck_NoHands, h_sb_NoHands, h_hd_NoHands, h_eca_NoHands, h_ecn, h_ect, h_ecm_NoHands⟩,
    qt_NoSteps_in_NoForm := h_qt_NoSteps_in_NoForm,
    qt_NoSteps_in_NoCounter := h_qt_NoSteps_in_NoCounter,
    qt_NoSteps_in_NoSize := h_qt_NoSteps_in_NoSize,
    qt_NoSteps_in_NoRing := h_qt_NoSteps_in_NoRing,
    qt_NoSteps_in_Outside := h_qt_NoSteps_in_Outside,
    qt_NoSteps_in_NoSet := h_qt_NoSteps_in_NoSet,
    qt_NoSteps_in_TooLong := h_qt_NoSteps_in_TooLong,
    qt_NoSteps_in_NotDecided := h_qt_NoSteps_in_NotDecided,
    qt_NoSteps_in_NoLag := h_qt_NoSteps_in_NoLag,
    qt_NoSteps_in_NoRow := h_qt_NoSteps_in_NoRow,
    qt_NoSteps_in_NoName := h_qt_NoSteps_in_NoName,
    qt_NoSteps_in_Nested := h_qt_NoSteps_in_Nested,
    qt_NoSteps_in_NoScheme := h_qt_NoSteps_in_NoScheme,
    qt_NoSteps_in_NoRun := h_qt_NoSteps_in_NoRun,
    qt_NoSteps_in_NotRight := h_qt_NoSteps_in_NotRight,
    qt_NoSteps_in_NoHands := h_qt_NoSteps_in_NoHands,
    qt_NoSteps_in_NoSteps := h_qt_NoSteps_in_NoSteps,
    qt_NoSteps_in_NoChange := h_qt_NoSteps_in_NoChange,
    qt_NoSteps_in_RingError := h_qt_NoSteps_in_RingError,
    qt_NoSteps_in_VE := h_qt_NoSteps_in_VE,
    xm_NoSteps := PySem.W.exm_ref h_sb_RingError h_hd_RingError h_tc_RingError h_sr_NoSteps,
    ec_NoSteps := ⟨h_ecg_NoSteps, h_eck_NoSteps, h_sb_NoSteps, h_hd_NoSteps, h_eca_NoSteps, h_ecn, h_ect, h_ecm_NoSteps⟩,
    qt_NoChange_in_NoForm := h_qt_NoChange_in_NoForm,
    qt_NoChange_in_NoCounter := h_qt_NoChange_in_NoCounter,
    qt_NoChange_in_NoSize := h_qt_NoChange_in_NoSize,
    qt_NoChange_in_NoRing := h_qt_NoChange_in_NoRing,
    qt_NoChange_in_Outside := h_qt_NoChange_in_Outside,
    qt_NoChange_in_NoSet := h_qt_NoChange_in_NoSet,
    qt_NoChange_in_TooLong := h_qt_NoChange_in_TooLong,
    qt_NoChange_in_NotDecided := h_qt_NoChange_in_NotDecided,
    qt_NoChange_in_NoLag := h_qt_NoChange_in_NoLag,
    qt_NoChange_in_NoRow := h_qt_NoChange_in_NoRow,
    qt_NoChange_in_NoName := h_qt_NoChange_in_NoName,
    qt_NoChange_in_Nested := h_qt_NoChange_in_Nested,
    qt_NoChange_in_NoScheme := h_qt_NoChange_in_NoScheme,
    qt_NoChange_in_NoRun := h_qt_NoChange_in_NoRun,
    qt_NoChange_in_NotRight := h_qt_NoChange_in_NotRight,
    qt_NoChange_in_NoHands := h_qt_NoChange_in_NoHands,
    qt_NoChange_in_NoSteps := h_qt_NoChange_in_NoSteps,
    qt_NoChange_in_NoChange := h_qt_NoChange_in_NoChange,
    qt_NoChange_in_RingError := h_qt_NoChange_in_RingError,
    qt_NoChange_in_VE := h_qt_NoChange_in_VE,
    xm_NoChange := PySem.W.exm_ref h_sb_RingError h_hd_RingError h_tc_RingError h_sr_NoChange,
    ec_NoChange := ⟨h_ecg_NoChange, h_eck_NoChange, h_sb_NoChange, h_hd_NoChange, h_eca_NoChange, h_ecn, h_ect, h_ecm_NoChange⟩,
    ox_NoScheme := ⟨ExV.oex_of h_oq_NoScheme, h_sa_NoScheme, h_sb_NoScheme, h_tc_NoScheme, h_kp_NoScheme⟩,
    oi_NoScheme := h_oi_NoScheme,
    ot_NoScheme := h_ot_NoScheme,
    on_NoScheme := h_on_NoScheme,
    xf_NoScheme := ⟨h_ecg_NoScheme, h_eck_NoScheme, h_sb_NoScheme, h_hd_NoScheme⟩,
    ox_NoRun := ⟨ExV.oex_of h_oq_NoRun, h_sa_NoRun, h_sb_NoRun, h_tc_NoRun, h_kp_NoRun⟩,
    oi_NoRun := h_oi_NoRun,
    ot_NoRun := h_ot_NoRun,
    on_NoRun := h_on_NoRun,
    xf_NoRun := ⟨h_ecg_NoRun, h_eck_NoRun, h_sb_NoRun, h_hd_NoRun⟩,
    ox_NotRight := ⟨ExV.oex_of h_oq_NotRight, h_sa_NotRight, h_sb_NotRight, h_tc_NotRight, h_kp_NotRight⟩,
    oi_NotRight := h_oi_NotRight,
    ot_NotRight := h_ot_NotRight,
    on_NotRight := h_on_NotRight,
    xf_NotRight := ⟨h_ecg_NotRight, h_eck_NotRight, h_sb_NotRight, h_hd_NotRight⟩,
    ox_NoHands := ⟨ExV.oex_of h_oq_NoHands, h_sa_NoHands, h_sb_NoHands, h_tc_NoHands, h_kp_NoHands⟩,
    oi_NoHands := h_oi_NoHands,
    ot_NoHands := h_ot_NoHands,
    on_NoHands := h_on_NoHands,
    xf_NoHands := ⟨h_ecg_NoHands, h_eck_NoHands, h_sb_NoHands, h_hd_NoHands⟩,
    ox_NoSteps := ⟨ExV.oex_of h_oq_NoSteps, h_sa_NoSteps, h_sb_NoSteps, h_tc_NoSteps, h_kp_NoSteps⟩,
    oi_NoSteps := h_oi_NoSteps,
    ot_NoSteps := h_ot_NoSteps,
    on_NoSteps := h_on_NoSteps,
    xf_NoSteps := ⟨h_ecg_NoSteps, h_eck_NoSteps, h_sb_NoSteps, h_hd_NoSteps⟩,
    ox_NoChange := ⟨ExV.oex_of h_oq_NoChange, h_sa_NoChange, h_sb_NoChange, h_tc_NoChange, h_kp_NoChange⟩,
    oi_NoChange := h_oi_NoChange,
    ot_NoChange := h_ot_NoChange,
    on_NoChange := h_on_NoChange,
    xf_NoChange := ⟨h_ecg_NoChange, h_eck_NoChange, h_sb_NoChange, h_hd_NoChange⟩ }
  have bl := FunD.bindsA (ps := ["_law_script"]) h_F_law fun _ _ _ _ _ _ us hl => match us, hl with | [_], _ => rfl
  exact ⟨fd_law, fun s v => bl s [v] rfl, fun base _ _ => ok_law T⟩
theorem facts {P : PySem.W.OpenLaw} {w : World} {K : PySem.W.Frag} {h : Heap} {mg : Str → Option Value} {fa : Addr} (X : K.In h) (G : h.Ns mainGlobals mg) (hfa : mg "law" = some (.ref fa)) (c : Hd.tell fns tbs exs K = Hd.told fns tbs w) :
    ∃ fd : FuncData, (∀ (s : Shared) (v : Value), BindsTo s fd ⟨[v], []⟩ [("_law_script", v)]) ∧ ∀ base : Heap, K.In base → base.Ns mainGlobals mg → FnOk P.prog w K mg base CX0 4 fa fd ["_law_script"] (sp_law K) := by
  have e := Hd.exOf c
  obtain ⟨e0, e⟩ := He.ba e
  obtain ⟨h_n_len, h_n_int, h_n_range, h_n_max, h_n_min, h_n_isinstance, h_n_repr, h_n_str, h_n_ValueError, h_m_NoForm, h_m_NoCounter, h_m_NoSize⟩ := (show Px0 K from of_decide_eq_true e0)
  obtain ⟨e1, e⟩ := He.ba e
  obtain ⟨h_m_NoRing, h_m_Outside, h_m_NoSet, h_m_TooLong, h_m_NotDecided, h_m_NoLag, h_m_NoRow, h_m_NoName, h_m_Nested, h_m_NoScheme, h_m_NoRun, h_m_NotRight⟩ := (show Px1 K from of_decide_eq_true e1)
  obtain ⟨e2, e⟩ := He.ba e
  obtain ⟨h_m_NoHands, h_m_NoSteps, h_m_NoChange, h_m_RingError, h_m_l_cell, h_m_l_parts, h_m_l_of_text, h_m_l_of_parts, h_m_l_flags, h_m_l_kept, h_m_law, h_x_NoForm⟩ := (show Px2 K from of_decide_eq_true e2)
  obtain ⟨e3, e⟩ := He.ba e
  obtain ⟨h_kp_NoForm, h_sb_NoForm, h_tc_NoForm, h_x_NoCounter, h_kp_NoCounter, h_sb_NoCounter, h_tc_NoCounter, h_x_NoSize, h_kp_NoSize, h_sb_NoSize, h_tc_NoSize, h_x_NoRing⟩ := (show Px3 K from of_decide_eq_true e3)
  obtain ⟨e4, e⟩ := He.ba e
  obtain ⟨h_kp_NoRing, h_sb_NoRing, h_tc_NoRing, h_x_Outside, h_kp_Outside, h_sb_Outside, h_tc_Outside, h_x_NoSet, h_kp_NoSet, h_sb_NoSet, h_tc_NoSet, h_x_TooLong⟩ := (show Px4 K from of_decide_eq_true e4)
  obtain ⟨e5, e⟩ := He.ba e
  obtain ⟨h_kp_TooLong, h_sb_TooLong, h_tc_TooLong, h_x_NotDecided, h_kp_NotDecided, h_sb_NotDecided, h_tc_NotDecided, h_x_NoLag, h_kp_NoLag, h_sb_NoLag, h_tc_NoLag, h_x_NoRow⟩ := (show Px5 K from of_decide_eq_true e5)
  obtain ⟨e6, e⟩ := He.ba e
  obtain ⟨h_kp_NoRow, h_sb_NoRow, h_tc_NoRow, h_x_NoName, h_kp_NoName, h_sb_NoName, h_tc_NoName, h_x_Nested, h_kp_Nested, h_sb_Nested, h_tc_Nested, h_qt_NoForm_in_NoForm⟩ := (show Px6 K from of_decide_eq_true e6)
  obtain ⟨e7, e⟩ := He.ba e
  obtain ⟨h_qt_NoForm_in_NoCounter, h_qt_NoForm_in_NoSize, h_qt_NoForm_in_NoRing, h_qt_NoForm_in_Outside, h_qt_NoForm_in_NoSet, h_qt_NoForm_in_TooLong, h_qt_NoForm_in_NotDecided, h_qt_NoForm_in_NoLag, h_qt_NoForm_in_NoRow, h_qt_NoForm_in_NoName, h_qt_NoForm_in_Nested, h_qt_NoForm_in_NoScheme⟩ := (show Px7 K from of_decide_eq_true e7)
  obtain ⟨e8, e⟩ := He.ba e
  obtain ⟨h_qt_NoForm_in_NoRun, h_qt_NoForm_in_NotRight, h_qt_NoForm_in_NoHands, h_qt_NoForm_in_NoSteps, h_qt_NoForm_in_NoChange, h_qt_NoForm_in_RingError, h_qt_NoForm_in_VE, h_sb_RingError, h_hd_RingError, h_tc_RingError, h_sr_NoForm, h_ecg_NoForm⟩ := (show Px8 K from of_decide_eq_true e8)
  obtain ⟨e9, e⟩ := He.ba e
  obtain ⟨h_eck_NoForm, h_hd_NoForm, h_eca_NoForm, h_ecn, h_ect, h_ecm_NoForm, h_qt_NoCounter_in_NoForm, h_qt_NoCounter_in_NoCounter, h_qt_NoCounter_in_NoSize, h_qt_NoCounter_in_NoRing, h_qt_NoCounter_in_Outside, h_qt_NoCounter_in_NoSet⟩ := (show Px9 K from of_decide_eq_true e9)
  obtain ⟨e10, e⟩ := He.ba e
  obtain ⟨h_qt_NoCounter_in_TooLong, h_qt_NoCounter_in_NotDecided, h_qt_NoCounter_in_NoLag, h_qt_NoCounter_in_NoRow, h_qt_NoCounter_in_NoName, h_qt_NoCounter_in_Nested, h_qt_NoCounter_in_NoScheme, h_qt_NoCounter_in_NoRun, h_qt_NoCounter_in_NotRight, h_qt_NoCounter_in_NoHands, h_qt_NoCounter_in_NoSteps, h_qt_NoCounter_in_NoChange⟩ := (show Px10 K from of_decide_eq_true e10)
  obtain ⟨e11, e⟩ := He.ba e
  obtain ⟨h_qt_NoCounter_in_RingError, h_qt_NoCounter_in_VE, h_sr_NoCounter, h_ecg_NoCounter, h_eck_NoCounter, h_hd_NoCounter, h_eca_NoCounter, h_ecm_NoCounter, h_qt_NoSize_in_NoForm, h_qt_NoSize_in_NoCounter, h_qt_NoSize_in_NoSize, h_qt_NoSize_in_NoRing⟩ := (show Px11 K from of_decide_eq_true e11)
  obtain ⟨e12, e⟩ := He.ba e
  obtain ⟨h_qt_NoSize_in_Outside, h_qt_NoSize_in_NoSet, h_qt_NoSize_in_TooLong, h_qt_NoSize_in_NotDecided, h_qt_NoSize_in_NoLag, h_qt_NoSize_in_NoRow, h_qt_NoSize_in_NoName, h_qt_NoSize_in_Nested, h_qt_NoSize_in_NoScheme, h_qt_NoSize_in_NoRun, h_qt_NoSize_in_NotRight, h_qt_NoSize_in_NoHands⟩ := (show Px12 K from of_decide_eq_true e12)
  obtain ⟨e13, e⟩ := He.ba e
  obtain ⟨h_qt_NoSize_in_NoSteps, h_qt_NoSize_in_NoChange, h_qt_NoSize_in_RingError, h_qt_NoSize_in_VE, h_sr_NoSize, h_ecg_NoSize, h_eck_NoSize, h_hd_NoSize, h_eca_NoSize, h_ecm_NoSize, h_qt_NoRing_in_NoForm, h_qt_NoRing_in_NoCounter⟩ := (show Px13 K from of_decide_eq_true e13)
  obtain ⟨e14, e⟩ := He.ba e
  obtain ⟨h_qt_NoRing_in_NoSize, h_qt_NoRing_in_NoRing, h_qt_NoRing_in_Outside, h_qt_NoRing_in_NoSet, h_qt_NoRing_in_TooLong, h_qt_NoRing_in_NotDecided, h_qt_NoRing_in_NoLag, h_qt_NoRing_in_NoRow, h_qt_NoRing_in_NoName, h_qt_NoRing_in_Nested, h_qt_NoRing_in_NoScheme, h_qt_NoRing_in_NoRun⟩ := (show Px14 K from of_decide_eq_true e14)
  obtain ⟨e15, e⟩ := He.ba e
  obtain ⟨h_qt_NoRing_in_NotRight, h_qt_NoRing_in_NoHands, h_qt_NoRing_in_NoSteps, h_qt_NoRing_in_NoChange, h_qt_NoRing_in_RingError, h_qt_NoRing_in_VE, h_sr_NoRing, h_ecg_NoRing, h_eck_NoRing, h_hd_NoRing, h_eca_NoRing, h_ecm_NoRing⟩ := (show Px15 K from of_decide_eq_true e15)
  obtain ⟨e16, e⟩ := He.ba e
  obtain ⟨h_qt_Outside_in_NoForm, h_qt_Outside_in_NoCounter, h_qt_Outside_in_NoSize, h_qt_Outside_in_NoRing, h_qt_Outside_in_Outside, h_qt_Outside_in_NoSet, h_qt_Outside_in_TooLong, h_qt_Outside_in_NotDecided, h_qt_Outside_in_NoLag, h_qt_Outside_in_NoRow, h_qt_Outside_in_NoName, h_qt_Outside_in_Nested⟩ := (show Px16 K from of_decide_eq_true e16)
  obtain ⟨e17, e⟩ := He.ba e
  obtain ⟨h_qt_Outside_in_NoScheme, h_qt_Outside_in_NoRun, h_qt_Outside_in_NotRight, h_qt_Outside_in_NoHands, h_qt_Outside_in_NoSteps, h_qt_Outside_in_NoChange, h_qt_Outside_in_RingError, h_qt_Outside_in_VE, h_sr_Outside, h_ecg_Outside, h_eck_Outside, h_hd_Outside⟩ := (show Px17 K from of_decide_eq_true e17)
  obtain ⟨e18, e⟩ := He.ba e
  obtain ⟨h_eca_Outside, h_ecm_Outside, h_qt_NoSet_in_NoForm, h_qt_NoSet_in_NoCounter, h_qt_NoSet_in_NoSize, h_qt_NoSet_in_NoRing, h_qt_NoSet_in_Outside, h_qt_NoSet_in_NoSet, h_qt_NoSet_in_TooLong, h_qt_NoSet_in_NotDecided, h_qt_NoSet_in_NoLag, h_qt_NoSet_in_NoRow⟩ := (show Px18 K from of_decide_eq_true e18)
  obtain ⟨e19, e⟩ := He.ba e
  obtain ⟨h_qt_NoSet_in_NoName, h_qt_NoSet_in_Nested, h_qt_NoSet_in_NoScheme, h_qt_NoSet_in_NoRun, h_qt_NoSet_in_NotRight, h_qt_NoSet_in_NoHands, h_qt_NoSet_in_NoSteps, h_qt_NoSet_in_NoChange, h_qt_NoSet_in_RingError, h_qt_NoSet_in_VE, h_sr_NoSet, h_ecg_NoSet⟩ := (show Px19 K from of_decide_eq_true e19)
  obtain ⟨e20, e⟩ := He.ba e
  obtain ⟨h_eck_NoSet, h_hd_NoSet, h_eca_NoSet, h_ecm_NoSet, h_qt_TooLong_in_NoForm, h_qt_TooLong_in_NoCounter, h_qt_TooLong_in_NoSize, h_qt_TooLong_in_NoRing, h_qt_TooLong_in_Outside, h_qt_TooLong_in_NoSet, h_qt_TooLong_in_TooLong, h_qt_TooLong_in_NotDecided⟩ := (show Px20 K from of_decide_eq_true e20)
  obtain ⟨e21, e⟩ := He.ba e
  obtain ⟨h_qt_TooLong_in_NoLag, h_qt_TooLong_in_NoRow, h_qt_TooLong_in_NoName, h_qt_TooLong_in_Nested, h_qt_TooLong_in_NoScheme, h_qt_TooLong_in_NoRun, h_qt_TooLong_in_NotRight, h_qt_TooLong_in_NoHands, h_qt_TooLong_in_NoSteps, h_qt_TooLong_in_NoChange, h_qt_TooLong_in_RingError, h_qt_TooLong_in_VE⟩ := (show Px21 K from of_decide_eq_true e21)
  obtain ⟨e22, e⟩ := He.ba e
  obtain ⟨h_sr_TooLong, h_ecg_TooLong, h_eck_TooLong, h_hd_TooLong, h_eca_TooLong, h_ecm_TooLong, h_qt_NotDecided_in_NoForm, h_qt_NotDecided_in_NoCounter, h_qt_NotDecided_in_NoSize, h_qt_NotDecided_in_NoRing, h_qt_NotDecided_in_Outside, h_qt_NotDecided_in_NoSet⟩ := (show Px22 K from of_decide_eq_true e22)
  obtain ⟨e23, e⟩ := He.ba e
  obtain ⟨h_qt_NotDecided_in_TooLong, h_qt_NotDecided_in_NotDecided, h_qt_NotDecided_in_NoLag, h_qt_NotDecided_in_NoRow, h_qt_NotDecided_in_NoName, h_qt_NotDecided_in_Nested, h_qt_NotDecided_in_NoScheme, h_qt_NotDecided_in_NoRun, h_qt_NotDecided_in_NotRight, h_qt_NotDecided_in_NoHands, h_qt_NotDecided_in_NoSteps, h_qt_NotDecided_in_NoChange⟩ := (show Px23 K from of_decide_eq_true e23)
  obtain ⟨e24, e⟩ := He.ba e
  obtain ⟨h_qt_NotDecided_in_RingError, h_qt_NotDecided_in_VE, h_sr_NotDecided, h_ecg_NotDecided, h_eck_NotDecided, h_hd_NotDecided, h_eca_NotDecided, h_ecm_NotDecided, h_qt_NoLag_in_NoForm, h_qt_NoLag_in_NoCounter, h_qt_NoLag_in_NoSize, h_qt_NoLag_in_NoRing⟩ := (show Px24 K from of_decide_eq_true e24)
  obtain ⟨e25, e⟩ := He.ba e
  obtain ⟨h_qt_NoLag_in_Outside, h_qt_NoLag_in_NoSet, h_qt_NoLag_in_TooLong, h_qt_NoLag_in_NotDecided, h_qt_NoLag_in_NoLag, h_qt_NoLag_in_NoRow, h_qt_NoLag_in_NoName, h_qt_NoLag_in_Nested, h_qt_NoLag_in_NoScheme, h_qt_NoLag_in_NoRun, h_qt_NoLag_in_NotRight, h_qt_NoLag_in_NoHands⟩ := (show Px25 K from of_decide_eq_true e25)
  obtain ⟨e26, e⟩ := He.ba e
  obtain ⟨h_qt_NoLag_in_NoSteps, h_qt_NoLag_in_NoChange, h_qt_NoLag_in_RingError, h_qt_NoLag_in_VE, h_sr_NoLag, h_ecg_NoLag, h_eck_NoLag, h_hd_NoLag, h_eca_NoLag, h_ecm_NoLag, h_qt_NoRow_in_NoForm, h_qt_NoRow_in_NoCounter⟩ := (show Px26 K from of_decide_eq_true e26)
  obtain ⟨e27, e⟩ := He.ba e
  obtain ⟨h_qt_NoRow_in_NoSize, h_qt_NoRow_in_NoRing, h_qt_NoRow_in_Outside, h_qt_NoRow_in_NoSet, h_qt_NoRow_in_TooLong, h_qt_NoRow_in_NotDecided, h_qt_NoRow_in_NoLag, h_qt_NoRow_in_NoRow, h_qt_NoRow_in_NoName, h_qt_NoRow_in_Nested, h_qt_NoRow_in_NoScheme, h_qt_NoRow_in_NoRun⟩ := (show Px27 K from of_decide_eq_true e27)
  obtain ⟨e28, e⟩ := He.ba e
  obtain ⟨h_qt_NoRow_in_NotRight, h_qt_NoRow_in_NoHands, h_qt_NoRow_in_NoSteps, h_qt_NoRow_in_NoChange, h_qt_NoRow_in_RingError, h_qt_NoRow_in_VE, h_sr_NoRow, h_ecg_NoRow, h_eck_NoRow, h_hd_NoRow, h_eca_NoRow, h_ecm_NoRow⟩ := (show Px28 K from of_decide_eq_true e28)
  obtain ⟨e29, e⟩ := He.ba e
  obtain ⟨h_qt_NoName_in_NoForm, h_qt_NoName_in_NoCounter, h_qt_NoName_in_NoSize, h_qt_NoName_in_NoRing, h_qt_NoName_in_Outside, h_qt_NoName_in_NoSet, h_qt_NoName_in_TooLong, h_qt_NoName_in_NotDecided, h_qt_NoName_in_NoLag, h_qt_NoName_in_NoRow, h_qt_NoName_in_NoName, h_qt_NoName_in_Nested⟩ := (show Px29 K from of_decide_eq_true e29)
  obtain ⟨e30, e⟩ := He.ba e
  obtain ⟨h_qt_NoName_in_NoScheme, h_qt_NoName_in_NoRun, h_qt_NoName_in_NotRight, h_qt_NoName_in_NoHands, h_qt_NoName_in_NoSteps, h_qt_NoName_in_NoChange, h_qt_NoName_in_RingError, h_qt_NoName_in_VE, h_sr_NoName, h_ecg_NoName, h_eck_NoName, h_hd_NoName⟩ := (show Px30 K from of_decide_eq_true e30)
  obtain ⟨e31, e⟩ := He.ba e
  obtain ⟨h_eca_NoName, h_ecm_NoName, h_qt_Nested_in_NoForm, h_qt_Nested_in_NoCounter, h_qt_Nested_in_NoSize, h_qt_Nested_in_NoRing, h_qt_Nested_in_Outside, h_qt_Nested_in_NoSet, h_qt_Nested_in_TooLong, h_qt_Nested_in_NotDecided, h_qt_Nested_in_NoLag, h_qt_Nested_in_NoRow⟩ := (show Px31 K from of_decide_eq_true e31)
  obtain ⟨e32, e⟩ := He.ba e
  obtain ⟨h_qt_Nested_in_NoName, h_qt_Nested_in_Nested, h_qt_Nested_in_NoScheme, h_qt_Nested_in_NoRun, h_qt_Nested_in_NotRight, h_qt_Nested_in_NoHands, h_qt_Nested_in_NoSteps, h_qt_Nested_in_NoChange, h_qt_Nested_in_RingError, h_qt_Nested_in_VE, h_sr_Nested, h_ecg_Nested⟩ := (show Px32 K from of_decide_eq_true e32)
  obtain ⟨e33, e⟩ := He.ba e
  obtain ⟨h_eck_Nested, h_hd_Nested, h_eca_Nested, h_ecm_Nested, h_qt_NoScheme_in_NoForm, h_qt_NoScheme_in_NoCounter, h_qt_NoScheme_in_NoSize, h_qt_NoScheme_in_NoRing, h_qt_NoScheme_in_Outside, h_qt_NoScheme_in_NoSet, h_qt_NoScheme_in_TooLong, h_qt_NoScheme_in_NotDecided⟩ := (show Px33 K from of_decide_eq_true e33)
  obtain ⟨e34, e⟩ := He.ba e
  obtain ⟨h_qt_NoScheme_in_NoLag, h_qt_NoScheme_in_NoRow, h_qt_NoScheme_in_NoName, h_qt_NoScheme_in_Nested, h_qt_NoScheme_in_NoScheme, h_qt_NoScheme_in_NoRun, h_qt_NoScheme_in_NotRight, h_qt_NoScheme_in_NoHands, h_qt_NoScheme_in_NoSteps, h_qt_NoScheme_in_NoChange, h_qt_NoScheme_in_RingError, h_qt_NoScheme_in_VE⟩ := (show Px34 K from of_decide_eq_true e34)
  obtain ⟨e35, e⟩ := He.ba e
  obtain ⟨h_sr_NoScheme, h_ecg_NoScheme, h_eck_NoScheme, h_sb_NoScheme, h_hd_NoScheme, h_eca_NoScheme, h_ecm_NoScheme, h_qt_NoRun_in_NoForm, h_qt_NoRun_in_NoCounter, h_qt_NoRun_in_NoSize, h_qt_NoRun_in_NoRing, h_qt_NoRun_in_Outside⟩ := (show Px35 K from of_decide_eq_true e35)
  obtain ⟨e36, e⟩ := He.ba e
  obtain ⟨h_qt_NoRun_in_NoSet, h_qt_NoRun_in_TooLong, h_qt_NoRun_in_NotDecided, h_qt_NoRun_in_NoLag, h_qt_NoRun_in_NoRow, h_qt_NoRun_in_NoName, h_qt_NoRun_in_Nested, h_qt_NoRun_in_NoScheme, h_qt_NoRun_in_NoRun, h_qt_NoRun_in_NotRight, h_qt_NoRun_in_NoHands, h_qt_NoRun_in_NoSteps⟩ := (show Px36 K from of_decide_eq_true e36)
  obtain ⟨e37, e⟩ := He.ba e
  obtain ⟨h_qt_NoRun_in_NoChange, h_qt_NoRun_in_RingError, h_qt_NoRun_in_VE, h_sr_NoRun, h_ecg_NoRun, h_eck_NoRun, h_sb_NoRun, h_hd_NoRun, h_eca_NoRun, h_ecm_NoRun, h_qt_NotRight_in_NoForm, h_qt_NotRight_in_NoCounter⟩ := (show Px37 K from of_decide_eq_true e37)
  obtain ⟨e38, e⟩ := He.ba e
  obtain ⟨h_qt_NotRight_in_NoSize, h_qt_NotRight_in_NoRing, h_qt_NotRight_in_Outside, h_qt_NotRight_in_NoSet, h_qt_NotRight_in_TooLong, h_qt_NotRight_in_NotDecided, h_qt_NotRight_in_NoLag, h_qt_NotRight_in_NoRow, h_qt_NotRight_in_NoName, h_qt_NotRight_in_Nested, h_qt_NotRight_in_NoScheme, h_qt_NotRight_in_NoRun⟩ := (show Px38 K from of_decide_eq_true e38)
  obtain ⟨e39, e⟩ := He.ba e
  obtain ⟨h_qt_NotRight_in_NotRight, h_qt_NotRight_in_NoHands, h_qt_NotRight_in_NoSteps, h_qt_NotRight_in_NoChange, h_qt_NotRight_in_RingError, h_qt_NotRight_in_VE, h_sr_NotRight, h_ecg_NotRight, h_eck_NotRight, h_sb_NotRight, h_hd_NotRight, h_eca_NotRight⟩ := (show Px39 K from of_decide_eq_true e39)
  obtain ⟨e40, e⟩ := He.ba e
  obtain ⟨h_ecm_NotRight, h_qt_NoHands_in_NoForm, h_qt_NoHands_in_NoCounter, h_qt_NoHands_in_NoSize, h_qt_NoHands_in_NoRing, h_qt_NoHands_in_Outside, h_qt_NoHands_in_NoSet, h_qt_NoHands_in_TooLong, h_qt_NoHands_in_NotDecided, h_qt_NoHands_in_NoLag, h_qt_NoHands_in_NoRow, h_qt_NoHands_in_NoName⟩ := (show Px40 K from of_decide_eq_true e40)
  obtain ⟨e41, e⟩ := He.ba e
  obtain ⟨h_qt_NoHands_in_Nested, h_qt_NoHands_in_NoScheme, h_qt_NoHands_in_NoRun, h_qt_NoHands_in_NotRight, h_qt_NoHands_in_NoHands, h_qt_NoHands_in_NoSteps, h_qt_NoHands_in_NoChange, h_qt_NoHands_in_RingError, h_qt_NoHands_in_VE, h_sr_NoHands, h_ecg_NoHands, h_eck_NoHands⟩ := (show Px41 K from of_decide_eq_true e41)
  obtain ⟨e42, e⟩ := He.ba e
  obtain ⟨h_sb_NoHands, h_hd_NoHands, h_eca_NoHands, h_ecm_NoHands, h_qt_NoSteps_in_NoForm, h_qt_NoSteps_in_NoCounter, h_qt_NoSteps_in_NoSize, h_qt_NoSteps_in_NoRing, h_qt_NoSteps_in_Outside, h_qt_NoSteps_in_NoSet, h_qt_NoSteps_in_TooLong, h_qt_NoSteps_in_NotDecided⟩ := (show Px42 K from of_decide_eq_true e42)
  obtain ⟨e43, e⟩ := He.ba e
  obtain ⟨h_qt_NoSteps_in_NoLag, h_qt_NoSteps_in_NoRow, h_qt_NoSteps_in_NoName, h_qt_NoSteps_in_Nested, h_qt_NoSteps_in_NoScheme, h_qt_NoSteps_in_NoRun, h_qt_NoSteps_in_NotRight, h_qt_NoSteps_in_NoHands, h_qt_NoSteps_in_NoSteps, h_qt_NoSteps_in_NoChange, h_qt_NoSteps_in_RingError, h_qt_NoSteps_in_VE⟩ := (show Px43 K from of_decide_eq_true e43)
  obtain ⟨e44, e⟩ := He.ba e
  obtain ⟨h_sr_NoSteps, h_ecg_NoSteps, h_eck_NoSteps, h_sb_NoSteps, h_hd_NoSteps, h_eca_NoSteps, h_ecm_NoSteps, h_qt_NoChange_in_NoForm, h_qt_NoChange_in_NoCounter, h_qt_NoChange_in_NoSize, h_qt_NoChange_in_NoRing, h_qt_NoChange_in_Outside⟩ := (show Px44 K from of_decide_eq_true e44)
  obtain ⟨e45, e⟩ := He.ba e
  obtain ⟨h_qt_NoChange_in_NoSet, h_qt_NoChange_in_TooLong, h_qt_NoChange_in_NotDecided, h_qt_NoChange_in_NoLag, h_qt_NoChange_in_NoRow, h_qt_NoChange_in_NoName, h_qt_NoChange_in_Nested, h_qt_NoChange_in_NoScheme, h_qt_NoChange_in_NoRun, h_qt_NoChange_in_NotRight, h_qt_NoChange_in_NoHands, h_qt_NoChange_in_NoSteps⟩ := (show Px45 K from of_decide_eq_true e45)
  obtain ⟨e46, e⟩ := He.ba e
  obtain ⟨h_qt_NoChange_in_NoChange, h_qt_NoChange_in_RingError, h_qt_NoChange_in_VE, h_sr_NoChange, h_ecg_NoChange, h_eck_NoChange, h_sb_NoChange, h_hd_NoChange, h_eca_NoChange, h_ecm_NoChange, h_oq_NoScheme, h_sa_NoScheme⟩ := (show Px46 K from of_decide_eq_true e46)
  obtain ⟨e47, e⟩ := He.ba e
  obtain ⟨h_tc_NoScheme, h_kp_NoScheme, h_oi_NoScheme, h_ot_NoScheme, h_on_NoScheme, h_oq_NoRun, h_sa_NoRun, h_tc_NoRun, h_kp_NoRun, h_oi_NoRun, h_ot_NoRun, h_on_NoRun⟩ := (show Px47 K from of_decide_eq_true e47)
  obtain ⟨e48, e⟩ := He.ba e
  obtain ⟨h_oq_NotRight, h_sa_NotRight, h_tc_NotRight, h_kp_NotRight, h_oi_NotRight, h_ot_NotRight, h_on_NotRight, h_oq_NoHands, h_sa_NoHands, h_tc_NoHands, h_kp_NoHands, h_oi_NoHands⟩ := (show Px48 K from of_decide_eq_true e48)
  obtain ⟨e49, e⟩ := He.ba e
  obtain ⟨h_ot_NoHands, h_on_NoHands, h_oq_NoSteps, h_sa_NoSteps, h_tc_NoSteps, h_kp_NoSteps, h_oi_NoSteps, h_ot_NoSteps, h_on_NoSteps, h_oq_NoChange, h_sa_NoChange, h_tc_NoChange⟩ := (show Px49 K from of_decide_eq_true e49)
  obtain ⟨e50, e⟩ := He.ba e
  obtain ⟨h_kp_NoChange, h_oi_NoChange, h_ot_NoChange, h_on_NoChange⟩ := (show Px50 K from of_decide_eq_true e50)
  obtain ⟨fd_NoSchemeu__initu_, h_F_NoSchemeu__initu_⟩ := Hd.fnOf c 0 (d := df0) rfl
  obtain ⟨fd_NoRunu__initu_, h_F_NoRunu__initu_⟩ := Hd.fnOf c 1 (d := df1) rfl
  obtain ⟨fd_NotRightu__initu_, h_F_NotRightu__initu_⟩ := Hd.fnOf c 2 (d := df2) rfl
  obtain ⟨fd_NoHandsu__initu_, h_F_NoHandsu__initu_⟩ := Hd.fnOf c 3 (d := df3) rfl
  obtain ⟨fd_NoStepsu__initu_, h_F_NoStepsu__initu_⟩ := Hd.fnOf c 4 (d := df4) rfl
  obtain ⟨fd_NoChangeu__initu_, h_F_NoChangeu__initu_⟩ := Hd.fnOf c 5 (d := df5) rfl
  obtain ⟨fd_l_cell, h_F_l_cell⟩ := Hd.fnOf c 6 (d := df6) rfl
  obtain ⟨fd_l_parts, h_F_l_parts⟩ := Hd.fnOf c 7 (d := df7) rfl
  obtain ⟨fd_l_of_text, h_F_l_of_text⟩ := Hd.fnOf c 8 (d := df8) rfl
  obtain ⟨fd_l_of_parts, h_F_l_of_parts⟩ := Hd.fnOf c 9 (d := df9) rfl
  obtain ⟨fd_l_flags, h_F_l_flags⟩ := Hd.fnOf c 10 (d := df10) rfl
  obtain ⟨fd_l_kept, h_F_l_kept⟩ := Hd.fnOf c 11 (d := df11) rfl
  obtain ⟨fd_law, h_F_law⟩ := Hd.fnOf c 12 (d := df12) rfl
  have hfl : fa = He.ga K "law" := by
    have e := hfa.symm.trans (PySem.W.mg_of X G h_m_law)
    cases e
    rfl
  subst hfl
  exact all_mk X G hfa h_n_len h_n_int h_n_range h_n_max h_n_min h_n_isinstance h_n_repr h_n_str h_n_ValueError h_m_NoForm h_m_NoCounter h_m_NoSize h_m_NoRing h_m_Outside h_m_NoSet h_m_TooLong h_m_NotDecided h_m_NoLag h_m_NoRow h_m_NoName h_m_Nested h_m_NoScheme h_m_NoRun h_m_NotRight h_m_NoHands h_m_NoSteps h_m_NoChange h_m_RingError h_m_l_cell h_m_l_parts h_m_l_of_text h_m_l_of_parts h_m_l_flags h_m_l_kept h_m_law h_x_NoForm h_kp_NoForm h_sb_NoForm h_tc_NoForm h_x_NoCounter h_kp_NoCounter h_sb_NoCounter h_tc_NoCounter h_x_NoSize h_kp_NoSize h_sb_NoSize h_tc_NoSize h_x_NoRing h_kp_NoRing h_sb_NoRing h_tc_NoRing h_x_Outside h_kp_Outside h_sb_Outside h_tc_Outside h_x_NoSet h_kp_NoSet h_sb_NoSet h_tc_NoSet h_x_TooLong h_kp_TooLong h_sb_TooLong h_tc_TooLong h_x_NotDecided h_kp_NotDecided h_sb_NotDecided h_tc_NotDecided h_x_NoLag h_kp_NoLag h_sb_NoLag h_tc_NoLag h_x_NoRow h_kp_NoRow h_sb_NoRow h_tc_NoRow h_x_NoName h_kp_NoName h_sb_NoName h_tc_NoName h_x_Nested h_kp_Nested h_sb_Nested h_tc_Nested h_F_NoSchemeu__initu_ h_F_NoRunu__initu_ h_F_NotRightu__initu_ h_F_NoHandsu__initu_ h_F_NoStepsu__initu_ h_F_NoChangeu__initu_ h_F_l_cell h_F_l_parts h_F_l_of_text h_F_l_of_parts h_F_l_flags h_F_l_kept h_F_law h_qt_NoForm_in_NoForm h_qt_NoForm_in_NoCounter h_qt_NoForm_in_NoSize h_qt_NoForm_in_NoRing h_qt_NoForm_in_Outside h_qt_NoForm_in_NoSet h_qt_NoForm_in_TooLong h_qt_NoForm_in_NotDecided h_qt_NoForm_in_NoLag h_qt_NoForm_in_NoRow h_qt_NoForm_in_NoName h_qt_NoForm_in_Nested h_qt_NoForm_in_NoScheme h_qt_NoForm_in_NoRun h_qt_NoForm_in_NotRight h_qt_NoForm_in_NoHands h_qt_NoForm_in_NoSteps h_qt_NoForm_in_NoChange h_qt_NoForm_in_RingError h_qt_NoForm_in_VE h_sb_RingError h_hd_RingError h_tc_RingError h_sr_NoForm h_ecg_NoForm h_eck_NoForm h_hd_NoForm h_eca_NoForm h_ecn h_ect h_ecm_NoForm h_qt_NoCounter_in_NoForm h_qt_NoCounter_in_NoCounter h_qt_NoCounter_in_NoSize h_qt_NoCounter_in_NoRing h_qt_NoCounter_in_Outside h_qt_NoCounter_in_NoSet h_qt_NoCounter_in_TooLong h_qt_NoCounter_in_NotDecided h_qt_NoCounter_in_NoLag h_qt_NoCounter_in_NoRow h_qt_NoCounter_in_NoName h_qt_NoCounter_in_Nested h_qt_NoCounter_in_NoScheme h_qt_NoCounter_in_NoRun h_qt_NoCounter_in_NotRight h_qt_NoCounter_in_NoHands h_qt_NoCounter_in_NoSteps h_qt_NoCounter_in_NoChange h_qt_NoCounter_in_RingError h_qt_NoCounter_in_VE h_sr_NoCounter h_ecg_NoCounter h_eck_NoCounter h_hd_NoCounter h_eca_NoCounter h_ecm_NoCounter h_qt_NoSize_in_NoForm h_qt_NoSize_in_NoCounter h_qt_NoSize_in_NoSize h_qt_NoSize_in_NoRing h_qt_NoSize_in_Outside h_qt_NoSize_in_NoSet h_qt_NoSize_in_TooLong h_qt_NoSize_in_NotDecided h_qt_NoSize_in_NoLag h_qt_NoSize_in_NoRow h_qt_NoSize_in_NoName h_qt_NoSize_in_Nested h_qt_NoSize_in_NoScheme h_qt_NoSize_in_NoRun h_qt_NoSize_in_NotRight h_qt_NoSize_in_NoHands h_qt_NoSize_in_NoSteps h_qt_NoSize_in_NoChange h_qt_NoSize_in_RingError h_qt_NoSize_in_VE h_sr_NoSize h_ecg_NoSize h_eck_NoSize h_hd_NoSize h_eca_NoSize h_ecm_NoSize h_qt_NoRing_in_NoForm h_qt_NoRing_in_NoCounter h_qt_NoRing_in_NoSize h_qt_NoRing_in_NoRing h_qt_NoRing_in_Outside h_qt_NoRing_in_NoSet h_qt_NoRing_in_TooLong h_qt_NoRing_in_NotDecided h_qt_NoRing_in_NoLag h_qt_NoRing_in_NoRow h_qt_NoRing_in_NoName h_qt_NoRing_in_Nested h_qt_NoRing_in_NoScheme h_qt_NoRing_in_NoRun h_qt_NoRing_in_NotRight h_qt_NoRing_in_NoHands h_qt_NoRing_in_NoSteps h_qt_NoRing_in_NoChange h_qt_NoRing_in_RingError h_qt_NoRing_in_VE h_sr_NoRing h_ecg_NoRing h_eck_NoRing h_hd_NoRing h_eca_NoRing h_ecm_NoRing h_qt_Outside_in_NoForm h_qt_Outside_in_NoCounter h_qt_Outside_in_NoSize h_qt_Outside_in_NoRing h_qt_Outside_in_Outside h_qt_Outside_in_NoSet h_qt_Outside_in_TooLong h_qt_Outside_in_NotDecided h_qt_Outside_in_NoLag h_qt_Outside_in_NoRow h_qt_Outside_in_NoName h_qt_Outside_in_Nested h_qt_Outside_in_NoScheme h_qt_Outside_in_NoRun h_qt_Outside_in_NotRight h_qt_Outside_in_NoHands h_qt_Outside_in_NoSteps h_qt_Outside_in_NoChange h_qt_Outside_in_RingError h_qt_Outside_in_VE h_sr_Outside h_ecg_Outside h_eck_Outside h_hd_Outside h_eca_Outside h_ecm_Outside h_qt_NoSet_in_NoForm h_qt_NoSet_in_NoCounter h_qt_NoSet_in_NoSize h_qt_NoSet_in_NoRing h_qt_NoSet_in_Outside h_qt_NoSet_in_NoSet h_qt_NoSet_in_TooLong h_qt_NoSet_in_NotDecided h_qt_NoSet_in_NoLag h_qt_NoSet_in_NoRow h_qt_NoSet_in_NoName h_qt_NoSet_in_Nested h_qt_NoSet_in_NoScheme h_qt_NoSet_in_NoRun h_qt_NoSet_in_NotRight h_qt_NoSet_in_NoHands h_qt_NoSet_in_NoSteps h_qt_NoSet_in_NoChange h_qt_NoSet_in_RingError h_qt_NoSet_in_VE h_sr_NoSet h_ecg_NoSet h_eck_NoSet h_hd_NoSet h_eca_NoSet h_ecm_NoSet h_qt_TooLong_in_NoForm h_qt_TooLong_in_NoCounter h_qt_TooLong_in_NoSize h_qt_TooLong_in_NoRing h_qt_TooLong_in_Outside h_qt_TooLong_in_NoSet h_qt_TooLong_in_TooLong h_qt_TooLong_in_NotDecided h_qt_TooLong_in_NoLag h_qt_TooLong_in_NoRow h_qt_TooLong_in_NoName h_qt_TooLong_in_Nested h_qt_TooLong_in_NoScheme h_qt_TooLong_in_NoRun h_qt_TooLong_in_NotRight h_qt_TooLong_in_NoHands h_qt_TooLong_in_NoSteps h_qt_TooLong_in_NoChange h_qt_TooLong_in_RingError h_qt_TooLong_in_VE h_sr_TooLong h_ecg_TooLong h_eck_TooLong h_hd_TooLong h_eca_TooLong h_ecm_TooLong h_qt_NotDecided_in_NoForm h_qt_NotDecided_in_NoCounter h_qt_NotDecided_in_NoSize h_qt_NotDecided_in_NoRing h_qt_NotDecided_in_Outside h_qt_NotDecided_in_NoSet h_qt_NotDecided_in_TooLong h_qt_NotDecided_in_NotDecided h_qt_NotDecided_in_NoLag h_qt_NotDecided_in_NoRow h_qt_NotDecided_in_NoName h_qt_NotDecided_in_Nested h_qt_NotDecided_in_NoScheme h_qt_NotDecided_in_NoRun h_qt_NotDecided_in_NotRight h_qt_NotDecided_in_NoHands h_qt_NotDecided_in_NoSteps h_qt_NotDecided_in_NoChange h_qt_NotDecided_in_RingError h_qt_NotDecided_in_VE h_sr_NotDecided h_ecg_NotDecided h_eck_NotDecided h_hd_NotDecided h_eca_NotDecided h_ecm_NotDecided h_qt_NoLag_in_NoForm h_qt_NoLag_in_NoCounter h_qt_NoLag_in_NoSize h_qt_NoLag_in_NoRing h_qt_NoLag_in_Outside h_qt_NoLag_in_NoSet h_qt_NoLag_in_TooLong h_qt_NoLag_in_NotDecided h_qt_NoLag_in_NoLag h_qt_NoLag_in_NoRow h_qt_NoLag_in_NoName h_qt_NoLag_in_Nested h_qt_NoLag_in_NoScheme h_qt_NoLag_in_NoRun h_qt_NoLag_in_NotRight h_qt_NoLag_in_NoHands h_qt_NoLag_in_NoSteps h_qt_NoLag_in_NoChange h_qt_NoLag_in_RingError h_qt_NoLag_in_VE h_sr_NoLag h_ecg_NoLag h_eck_NoLag h_hd_NoLag h_eca_NoLag h_ecm_NoLag h_qt_NoRow_in_NoForm h_qt_NoRow_in_NoCounter h_qt_NoRow_in_NoSize h_qt_NoRow_in_NoRing h_qt_NoRow_in_Outside h_qt_NoRow_in_NoSet h_qt_NoRow_in_TooLong h_qt_NoRow_in_NotDecided h_qt_NoRow_in_NoLag h_qt_NoRow_in_NoRow h_qt_NoRow_in_NoName h_qt_NoRow_in_Nested h_qt_NoRow_in_NoScheme h_qt_NoRow_in_NoRun h_qt_NoRow_in_NotRight h_qt_NoRow_in_NoHands h_qt_NoRow_in_NoSteps h_qt_NoRow_in_NoChange h_qt_NoRow_in_RingError h_qt_NoRow_in_VE h_sr_NoRow h_ecg_NoRow h_eck_NoRow h_hd_NoRow h_eca_NoRow h_ecm_NoRow h_qt_NoName_in_NoForm h_qt_NoName_in_NoCounter h_qt_NoName_in_NoSize h_qt_NoName_in_NoRing h_qt_NoName_in_Outside h_qt_NoName_in_NoSet h_qt_NoName_in_TooLong h_qt_NoName_in_NotDecided h_qt_NoName_in_NoLag h_qt_NoName_in_NoRow h_qt_NoName_in_NoName h_qt_NoName_in_Nested h_qt_NoName_in_NoScheme h_qt_NoName_in_NoRun h_qt_NoName_in_NotRight h_qt_NoName_in_NoHands h_qt_NoName_in_NoSteps h_qt_NoName_in_NoChange h_qt_NoName_in_RingError h_qt_NoName_in_VE h_sr_NoName h_ecg_NoName h_eck_NoName h_hd_NoName h_eca_NoName h_ecm_NoName h_qt_Nested_in_NoForm h_qt_Nested_in_NoCounter h_qt_Nested_in_NoSize h_qt_Nested_in_NoRing h_qt_Nested_in_Outside h_qt_Nested_in_NoSet h_qt_Nested_in_TooLong h_qt_Nested_in_NotDecided h_qt_Nested_in_NoLag h_qt_Nested_in_NoRow h_qt_Nested_in_NoName h_qt_Nested_in_Nested h_qt_Nested_in_NoScheme h_qt_Nested_in_NoRun h_qt_Nested_in_NotRight h_qt_Nested_in_NoHands h_qt_Nested_in_NoSteps h_qt_Nested_in_NoChange h_qt_Nested_in_RingError h_qt_Nested_in_VE h_sr_Nested h_ecg_Nested h_eck_Nested h_hd_Nested h_eca_Nested h_ecm_Nested h_qt_NoScheme_in_NoForm h_qt_NoScheme_in_NoCounter h_qt_NoScheme_in_NoSize h_qt_NoScheme_in_NoRing h_qt_NoScheme_in_Outside h_qt_NoScheme_in_NoSet h_qt_NoScheme_in_TooLong h_qt_NoScheme_in_NotDecided h_qt_NoScheme_in_NoLag h_qt_NoScheme_in_NoRow h_qt_NoScheme_in_NoName h_qt_NoScheme_in_Nested h_qt_NoScheme_in_NoScheme h_qt_NoScheme_in_NoRun h_qt_NoScheme_in_NotRight h_qt_NoScheme_in_NoHands h_qt_NoScheme_in_NoSteps h_qt_NoScheme_in_NoChange h_qt_NoScheme_in_RingError h_qt_NoScheme_in_VE h_sr_NoScheme h_ecg_NoScheme h_eck_NoScheme h_sb_NoScheme h_hd_NoScheme h_eca_NoScheme h_ecm_NoScheme h_qt_NoRun_in_NoForm h_qt_NoRun_in_NoCounter h_qt_NoRun_in_NoSize h_qt_NoRun_in_NoRing h_qt_NoRun_in_Outside h_qt_NoRun_in_NoSet h_qt_NoRun_in_TooLong h_qt_NoRun_in_NotDecided h_qt_NoRun_in_NoLag h_qt_NoRun_in_NoRow h_qt_NoRun_in_NoName h_qt_NoRun_in_Nested h_qt_NoRun_in_NoScheme h_qt_NoRun_in_NoRun h_qt_NoRun_in_NotRight h_qt_NoRun_in_NoHands h_qt_NoRun_in_NoSteps h_qt_NoRun_in_NoChange h_qt_NoRun_in_RingError h_qt_NoRun_in_VE h_sr_NoRun h_ecg_NoRun h_eck_NoRun h_sb_NoRun h_hd_NoRun h_eca_NoRun h_ecm_NoRun h_qt_NotRight_in_NoForm h_qt_NotRight_in_NoCounter h_qt_NotRight_in_NoSize h_qt_NotRight_in_NoRing h_qt_NotRight_in_Outside h_qt_NotRight_in_NoSet h_qt_NotRight_in_TooLong h_qt_NotRight_in_NotDecided h_qt_NotRight_in_NoLag h_qt_NotRight_in_NoRow h_qt_NotRight_in_NoName h_qt_NotRight_in_Nested h_qt_NotRight_in_NoScheme h_qt_NotRight_in_NoRun h_qt_NotRight_in_NotRight h_qt_NotRight_in_NoHands h_qt_NotRight_in_NoSteps h_qt_NotRight_in_NoChange h_qt_NotRight_in_RingError h_qt_NotRight_in_VE h_sr_NotRight h_ecg_NotRight h_eck_NotRight h_sb_NotRight h_hd_NotRight h_eca_NotRight h_ecm_NotRight h_qt_NoHands_in_NoForm h_qt_NoHands_in_NoCounter h_qt_NoHands_in_NoSize h_qt_NoHands_in_NoRing h_qt_NoHands_in_Outside h_qt_NoHands_in_NoSet h_qt_NoHands_in_TooLong h_qt_NoHands_in_NotDecided h_qt_NoHands_in_NoLag h_qt_NoHands_in_NoRow h_qt_NoHands_in_NoName h_qt_NoHands_in_Nested h_qt_NoHands_in_NoScheme h_qt_NoHands_in_NoRun h_qt_NoHands_in_NotRight h_qt_NoHands_in_NoHands h_qt_NoHands_in_NoSteps h_qt_NoHands_in_NoChange h_qt_NoHands_in_RingError h_qt_NoHands_in_VE h_sr_NoHands h_ecg_NoHands h_eck_NoHands h_sb_NoHands h_hd_NoHands h_eca_NoHands h_ecm_NoHands h_qt_NoSteps_in_NoForm h_qt_NoSteps_in_NoCounter h_qt_NoSteps_in_NoSize h_qt_NoSteps_in_NoRing h_qt_NoSteps_in_Outside h_qt_NoSteps_in_NoSet h_qt_NoSteps_in_TooLong h_qt_NoSteps_in_NotDecided h_qt_NoSteps_in_NoLag h_qt_NoSteps_in_NoRow h_qt_NoSteps_in_NoName h_qt_NoSteps_in_Nested h_qt_NoSteps_in_NoScheme h_qt_NoSteps_in_NoRun h_qt_NoSteps_in_NotRight h_qt_NoSteps_in_NoHands h_qt_NoSteps_in_NoSteps h_qt_NoSteps_in_NoChange h_qt_NoSteps_in_RingError h_qt_NoSteps_in_VE h_sr_NoSteps h_ecg_NoSteps h_eck_NoSteps h_sb_NoSteps h_hd_NoSteps h_eca_NoSteps h_ecm_NoSteps h_qt_NoChange_in_NoForm h_qt_NoChange_in_NoCounter h_qt_NoChange_in_NoSize h_qt_NoChange_in_NoRing h_qt_NoChange_in_Outside h_qt_NoChange_in_NoSet h_qt_NoChange_in_TooLong h_qt_NoChange_in_NotDecided h_qt_NoChange_in_NoLag h_qt_NoChange_in_NoRow h_qt_NoChange_in_NoName h_qt_NoChange_in_Nested h_qt_NoChange_in_NoScheme h_qt_NoChange_in_NoRun h_qt_NoChange_in_NotRight h_qt_NoChange_in_NoHands h_qt_NoChange_in_NoSteps h_qt_NoChange_in_NoChange h_qt_NoChange_in_RingError h_qt_NoChange_in_VE h_sr_NoChange h_ecg_NoChange h_eck_NoChange h_sb_NoChange h_hd_NoChange h_eca_NoChange h_ecm_NoChange h_oq_NoScheme h_sa_NoScheme h_tc_NoScheme h_kp_NoScheme h_oi_NoScheme h_ot_NoScheme h_on_NoScheme h_oq_NoRun h_sa_NoRun h_tc_NoRun h_kp_NoRun h_oi_NoRun h_ot_NoRun h_on_NoRun h_oq_NotRight h_sa_NotRight h_tc_NotRight h_kp_NotRight h_oi_NotRight h_ot_NotRight h_on_NotRight h_oq_NoHands h_sa_NoHands h_tc_NoHands h_kp_NoHands h_oi_NoHands h_ot_NoHands h_on_NoHands h_oq_NoSteps h_sa_NoSteps h_tc_NoSteps h_kp_NoSteps h_oi_NoSteps h_ot_NoSteps h_on_NoSteps h_oq_NoChange h_sa_NoChange h_tc_NoChange h_kp_NoChange h_oi_NoChange h_ot_NoChange h_on_NoChange
end Pk39
open PySem PySem.W PySem.Calls PyProof.Rows
set_option maxRecDepth 100000 in
set_option maxHeartbeats 0 in
theorem PySem.Challenge.cw_ringindexes_k39_errors_stand_apart_holds : PySem.Challenge.rw_ringindexes_k39_errors_stand_apart.Holds := by
  w_on; o_law
  refine HandSHeadRun.head_any (r := Pk39.R) (q := (PySem.W.view Pk39.R.prog [27])) (H := Pk39.hk) (ob := Pk39.ob) (M := 200000) (loose := Pk39.loose) (d := (HandSHeadRun.topDef Pk39.R.prog 27)) (kwd := []) Pk39.ob_is
    (by kernel_rfl) (fun s => by kernel_rfl) Pk39.run (by kernel_rfl) (by kernel_rfl) (by kernel_rfl) (by rfl) (by first | assumption | decide +kernel) (by decide +kernel) ⟨rfl, rfl, rfl, rfl, rfl, by decide +kernel⟩ ?hw ?hc
  case hw => w_witness2
  case hc =>
    refine L2.walk_ofE (l := PySem.Challenge.rw_ringindexes_k39_errors_stand_apart) (n := 63) (k := 4) (x := "_law_script") (CX := L2.CX0) rfl (by decide) (by kernel_rfl) ⟨rfl, by decide, by decide⟩ ?F (fun _ _ _ _ z => z)
    intro w mg fa h Y G hmg0
    obtain ⟨K, KX, c⟩ := Y
    have hmg : mg ("law" : PySem.Str) = some (.ref fa) := by
      have e : (HandSHeadRun.topDef Pk39.R.prog 27).name = ("law" : PySem.Str) := by kernel_rfl
      rw [← e]
      exact hmg0
    obtain ⟨fd, hb, hF⟩ := Pk39.facts (P := PySem.Challenge.rw_ringindexes_k39_errors_stand_apart) (w := w) KX G hmg c
    exact ⟨K, fd, Pk39.sp_law K, KX, hb, fun H a ns hl _ hS => ⟨a, ns, rfl, hS, hl, fun _ => rfl⟩, hF⟩
