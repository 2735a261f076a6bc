import PyProof.Rows.All
import Wide.All
import OpenK.AllK
import Wide.FinOn
import PyProof.EqAt
import PyProof.EqKinds
import PyProof.TupleCall
import PyProof.InstNe
import KE.RegKIsAll
import HandS.ForMost
import HandS.Wide
import HandS.IsInst
import HandS.OwnEq
import HandS.Star
import HandS.Property
import HandS.Defaults
import HandS.WordsExc
import HandS.ExcOwn
import HandS.TupLe
import HandS.SortKw
import KE.KMinBuiltin
import HandS.TryOnly
import HandS.ExcIs
import HandS.CallLocal
import HandS.Walk
import HandS.StrMore
import HandS.FStr
import HandS.NoneIn
import HandS.SetFor
import PyProof.StrLaws
import HandS.Small
import HandS.StrSplit
import HandS.MakeKwOnly
import HandS.More
import HandS.WideBits
import KE.KSortKey
import HandS.Head0
import HandS.Head1
import HandS.Head2
import HandS.Head3
import HandS.HeadEnd
import HandS.HeadHook1
import HandS.HeadHook2
import HandS.HeadHook3
import PySem.Challenge.RW_ringindexes_k24_windows_tried
set_option Elab.async false
set_option linter.all false
set_option maxRecDepth 100000
set_option maxHeartbeats 40000000
/-! ## steps of readings: each lemma opens one construct -/
namespace Rd
open PySem PySem.Spec PyProof.Rows L2

section
variable {σ : L2.St} {H : Hp} {Q : VK} {D : Ends} {K : PySem.W.Frag}
theorem seq {t u : TS} (h : t { D with nx := u D } σ H) : tSeq t u D σ H := h
theorem next (h : D.nx σ H) : tNext D σ H := h
theorem drop {te : TE} (h : te σ H fun _ H1 => D.nx σ H1) : tDrop te D σ H := h
theorem ret {te : TE} (h : te σ H D.rt) : tRet te D σ H := h
theorem retN (h : D.rt .non H) : tRetN D σ H := h
theorem brk (h : D.bk σ H) : tBreak D σ H := h
theorem cont (h : D.ct σ H) : tCont D σ H := h
theorem ifS {c : TT} {t u : TS} (h : c σ H fun b H1 => if b = true then t D σ H1 else u D σ H1) : tIfS c t u D σ H := h
theorem asg {te : TE} {g : TG} (h : te σ H fun x H1 => g x σ H1 D.nx) : tAsg te g D σ H := h
theorem name {i : Nat} {v : V} {q : L2.St → Hp → Prop} (h : q (σ.set i (some v)) H) : gName i v σ H q := h
theorem par {i j : Nat} {ta : TA} (h : ta σ H fun vs H1 => ∃ v w, vs = [v, w] ∧ D.nx ((σ.set i (some v)).set j (some w)) H1) : tPar i j ta D σ H := h
theorem par2 {i j : Nat} {v w : V} (h : D.nx ((σ.set i (some v)).set j (some w)) H) : ∃ v' w', [v, w] = [v', w'] ∧ D.nx ((σ.set i (some v')).set j (some w')) H := ⟨v, w, rfl, h⟩
theorem var {i : Nat} {v : V} (e : σ[i]? = some (some v)) (h : Q v H) : tVar i σ H Q := ⟨v, e, h⟩
theorem c {v : V} (h : Q v H) : tC v σ H Q := h
theorem op {r : R2} {ta tb : TE} (h : ta σ H fun x H1 => tb σ H1 fun y H2 => r x y H2 Q) : tOp r ta tb σ H Q := h
theorem un {r : V → Hp → VK → Prop} {ta : TE} (h : ta σ H fun x H1 => r x H1 Q) : tUn r ta σ H Q := h
theorem i0 {g : Int → Int → V} {i j : Int} (h : Q (g i j) H) : rI0 g (.int i) (.int j) H Q := ⟨i, j, rfl, rfl, h⟩
theorem iC {C : Int → Int → Prop} {g : Int → Int → V} {i j : Int} (e : C i j) (h : Q (g i j) H) : rI C g (.int i) (.int j) H Q := ⟨i, j, rfl, rfl, e, h⟩
theorem iU {g : Int → V} {i : Int} (h : Q (g i) H) : rU g (.int i) H Q := ⟨i, rfl, h⟩
theorem eqS {x y : V} (e : scal x y = true) (h : Q (.bl (decide (x = y))) H) : rEq x y H Q := ⟨e, h⟩
theorem neS {x y : V} (e : scal x y = true) (h : Q (.bl (!decide (x = y))) H) : rNe x y H Q := ⟨e, h⟩
theorem addS {i j : Str} (e : i.length + j.length ≤ sizeLine) (h : Q (.str (i ++ j)) H) : ∃ a b, V.str i = .str a ∧ V.str j = .str b ∧ a.length + b.length ≤ sizeLine ∧ Q (.str (a ++ b)) H := ⟨i, j, rfl, rfl, e, h⟩
theorem isN {x : V} (h : Q (.bl (decide (x = .non))) H) : V.non = .non ∧ Q (.bl (decide (x = .non))) H := ⟨rfl, h⟩
theorem notN {x : V} (h : Q (.bl (!decide (x = .non))) H) : V.non = .non ∧ Q (.bl (!decide (x = .non))) H := ⟨rfl, h⟩
theorem chain {r r' : R2} {ta tb tc : TE} (h : ta σ H fun x H1 => tb σ H1 fun y H2 => r x y H2 fun z H3 => ∃ k, z = .bl k ∧ (if k = true then tc σ H3 fun w' H4 => r' y w' H4 Q else Q (.bl false) H3)) : tChain r r' ta tb tc σ H Q := h
theorem bl {k : Bool} {A : Bool → Prop} (h : A k) : ∃ c, V.bl k = .bl c ∧ A c := ⟨k, rfl, h⟩
theorem test {t : TE} {q : Bool → Hp → Prop} (h : t σ H fun x H' => ∃ k, x = .bl k ∧ q k H') : tTest t σ H q := h
theorem tb {t : TE} {q : Bool → Hp → Prop} (h : t σ H fun x H' => ∃ k, x = .bl k ∧ q k H') : tB t σ H q := h
theorem and {t u : TT} {q : Bool → Hp → Prop} (h : t σ H fun c H1 => if c = true then u σ H1 q else q false H1) : tAnd t u σ H q := h
theorem or {t u : TT} {q : Bool → Hp → Prop} (h : t σ H fun c H1 => if c = true then q true H1 else u σ H1 q) : tOr t u σ H q := h
theorem not {t : TT} {q : Bool → Hp → Prop} (h : t σ H fun c H1 => q (!c) H1) : tNot t σ H q := h
theorem andV {ta tb : TE} (h : ta σ H fun x H1 => ∃ c, x = .bl c ∧ if c = true then tb σ H1 Q else Q (.bl false) H1) : tAndV ta tb σ H Q := h
theorem orV {ta tb : TE} (h : ta σ H fun x H1 => ∃ c, x = .bl c ∧ if c = true then Q (.bl true) H1 else tb σ H1 Q) : tOrV ta tb σ H Q := h
theorem notV {ta : TE} (h : ta σ H fun x H1 => ∃ c, x = .bl c ∧ Q (.bl (!c)) H1) : tNotV ta σ H Q := h
theorem ifE {t : TT} {ta tb : TE} (h : t σ H fun c H1 => if c = true then ta σ H1 Q else tb σ H1 Q) : tIf t ta tb σ H Q := h
theorem nil {q : List V → Hp → Prop} (h : q [] H) : tNil σ H q := h
theorem cons {ta : TE} {tr : TA} {q : List V → Hp → Prop} (h : ta σ H fun x H1 => tr σ H1 fun xs H2 => q (x :: xs) H2) : tCons ta tr σ H q := h
theorem cB {r : List V → Hp → VK → Prop} {t : TA} (h : t σ H fun vs H1 => r vs H1 Q) : tCB r t σ H Q := h
theorem tup {t : TA} (h : t σ H fun xs H1 => xs.length ≤ sizeLine ∧ ∀ p, H1 p = none → Q (.ref p) (upd H1 p (.tup xs))) : tTup t σ H Q := h
theorem lst {t : TA} (h : t σ H fun xs H1 => xs.length ≤ sizeLine ∧ ∀ p, H1 p = none → Q (.ref p) (upd H1 p (.lst xs))) : tLst t σ H Q := h
theorem laid {xs : List V} {A : Addr → Prop} (e : xs.length ≤ 1000) (h : ∀ p, H p = none → A p) : xs.length ≤ sizeLine ∧ ∀ p, H p = none → A p := ⟨Nat.le_of_lt (small1000 e), h⟩
theorem call {sp : Sp} {dvs : List V} {E : XK} {t : TA} (h : t σ H fun vs H1 => sp (vs ++ dvs) H1 Q E) : tCall sp dvs E t σ H Q := h
theorem meth {C : Addr} {m : Str} {sp : Sp} {dvs : List V} {E : XK} {ta : TE} {t : TA} (h : ta σ H fun x H1 => ∃ a dx fs, x = .ref a ∧ H1 a = some (.ins C dx fs) ∧ fs.lookup m = none ∧ t σ H1 fun vs H2 => sp (x :: (vs ++ dvs)) H2 Q E) : tMeth C m sp dvs E ta t σ H Q := h
theorem meth2 {C a dx : Addr} {fs : List (Str × V)} {m : Str} {A : Prop} (e : H a = some (.ins C dx fs)) (l : fs.lookup m = none) (h : A) : ∃ a' dx fs, V.ref a = .ref a' ∧ H a' = some (.ins C dx fs) ∧ fs.lookup m = none ∧ A := ⟨a, dx, fs, rfl, e, l, h⟩
theorem make {C : Addr} {sp : Sp} {dvs : List V} {E : XK} {t : TA} (h : t σ H fun vs H1 => ∀ x dx, H1 x = none → H1 dx = none → dx ≠ x → sp (.ref x :: (vs ++ dvs)) (upd (upd H1 dx (.own x)) x (.ins C dx [])) (fun v H2 => v = .non ∧ Q (.ref x) H2) E) : tMake C sp dvs E t σ H Q := h
theorem fld {ta : TE} {f : Str} (h : ta σ H fun x H1 => ∃ a C dx fs v, x = .ref a ∧ H1 a = some (.ins C dx fs) ∧ Cls K C ∧ NoAttr K C f ∧ fs.lookup f = some v ∧ Q v H1) : tFld K ta f σ H Q := h
theorem fld2 {f : Str} {a C dx : Addr} {fs : List (Str × V)} {v : V} (e : H a = some (.ins C dx fs)) (k : Cls K C) (n : NoAttr K C f) (l : fs.lookup f = some v) (h : Q v H) :
    ∃ a' C' dx fs v, V.ref a = .ref a' ∧ H a' = some (.ins C' dx fs) ∧ Cls K C' ∧ NoAttr K C' f ∧ fs.lookup f = some v ∧ Q v H := ⟨a, C, dx, fs, v, rfl, e, k, n, l, h⟩
theorem sfld {ta tv : TE} {f : Str} (h : tv σ H fun y H1 => ta σ H1 fun x H2 => ∃ a C dx fs, x = .ref a ∧ H2 a = some (.ins C dx fs) ∧ Cls K C ∧ NoAttr K C f ∧ fs.length < 1000 ∧ D.nx σ (upd H2 a (.ins C dx (putF f y fs)))) : sFld K ta tv f D σ H := h
theorem gnil {q : L2.St → Hp → Prop} (h : q σ H) : gNil [] σ H q := ⟨rfl, h⟩
theorem gcons {t : TG} {u : TGs} {v : V} {r : List V} {q : L2.St → Hp → Prop} (h : t v σ H fun σ' H' => u r σ' H' q) : gCons t u (v :: r) σ H q := ⟨v, r, rfl, h⟩
theorem gtup {n : Nat} {t : TGs} {a : Addr} {xs : List V} {q : L2.St → Hp → Prop} (e : SqT K H a xs) (l : xs.length = n) (h : t xs σ H q) : gTup K n t (.ref a) σ H q := ⟨a, xs, rfl, e, l, h⟩
theorem fr {wi : TI} {g : TG} {tb : TS} (h : wi σ H fun J H1 => ∃ W : Nat → Nat → L2.St → Hp → Prop, (∃ m, W 0 m σ H1) ∧ ∀ i m σ H, W i m σ H →
    (J.stop i H ∧ D.nx σ H) ∨ (J.go i H ∧ ∃ N : L2.St → Hp → Prop, (∀ σ' H', N σ' H' → ∃ m', m' < m ∧ W (i + 1) m' σ' H') ∧ ∀ x H', J.yld i H x H' → g x σ H' fun σ2 H2 => tb { D with nx := N, ct := N, bk := D.nx } σ2 H2)) : tFor wi g tb D σ H := h
theorem rng1 {ta : TA} {R : It → Hp → Prop} (h : ta σ H fun vs H1 => ∃ j : Int, vs = [.int j] ∧ -(2 ^ 62) ≤ j ∧ j < 2 ^ 62 ∧ R (Itr 0 j.toNat) H1) : iRng1 ta σ H R := h
theorem prop {C : Addr} {sp : Sp} {dvs : List V} {E : XK} {ta : TE} (h : ta σ H fun x H1 => ∃ a dx fs, x = .ref a ∧ H1 a = some (.ins C dx fs) ∧ sp (.ref a :: dvs) H1 Q E) : tProp C sp dvs E ta σ H Q := h
theorem aug {i : Nat} {te : TE} {ti : TIp} {x : V} (e : σ[i]? = some (some x)) (h : te σ H fun y H1 => ti x y H1 fun z H2 => D.nx (σ.set i (some z)) H2) : tAug i te ti D σ H := ⟨x, e, h⟩
theorem ipI {f : Int → Int → Int} {i j : Int} (h : Q (.int (f i j)) H) : L2.ipI f (.int i) (.int j) H Q := ⟨i, j, rfl, rfl, h⟩
theorem ixL {a : Addr} {xs : List V} {i : Int} {v : V} (e : SqL K H a xs) (l : atI xs i = some v) (h : Q v H) : rIxL K (.ref a) (.int i) H Q := ⟨a, xs, i, v, rfl, rfl, e, l, h⟩
theorem ixT {a : Addr} {xs : List V} {i : Int} {v : V} (e : SqT K H a xs) (l : atI xs i = some v) (h : Q v H) : rIxT K (.ref a) (.int i) H Q := ⟨a, xs, i, v, rfl, rfl, e, l, h⟩
theorem setL {a : Addr} {xs : List V} {k : Int} {j : Nat} {v : V} {q : Hp → Prop} (e : H a = some (.lst xs)) (l : ixN xs.length k = some j) (h : q (upd H a (.lst (xs.set j v)))) : rSetL (.ref a) (.int k) v H q := ⟨a, xs, k, j, rfl, rfl, e, l, h⟩
theorem sub {to ti : TE} {t : TSet} {v : V} {q : L2.St → Hp → Prop} (h : to σ H fun o H1 => ti σ H1 fun i H2 => t o i v H2 fun H3 => q σ H3) : gSub to ti t v σ H q := h
theorem lenQ {a : Addr} {xs : List V} (e : SqL K H a xs ∨ SqT K H a xs) (h : Q (.int xs.length) H) : ∃ p ys, [V.ref a] = [.ref p] ∧ (SqL K H p ys ∨ SqT K H p ys) ∧ Q (.int ys.length) H := ⟨a, xs, rfl, e, h⟩
theorem absI {i : Int} (h : Q (.int (if i < 0 then -i else i)) H) : ∃ j, [V.int i] = [.int j] ∧ Q (.int (if j < 0 then -j else j)) H := ⟨i, rfl, h⟩
theorem intI {i : Int} (h : Q (.int i) H) : (∃ j, [V.int i] = [.int j] ∧ Q (.int j) H) ∨ ∃ k, [V.int i] = [.bl k] ∧ Q (.int (if k then 1 else 0)) H := .inl ⟨i, rfl, h⟩
theorem ite {c A B : Prop} [Decidable c] (h1 : c → A) (h2 : ¬ c → B) : if c then A else B := by
  by_cases h : c
  · rw [if_pos h]; exact h1 h
  · rw [if_neg h]; exact h2 h
theorem iteT {b : Bool} {A B : Prop} (e : b = true) (h : A) : if b = true then A else B := by rw [if_pos e]; exact h
theorem iteF {b : Bool} {A B : Prop} (e : b = false) (h : B) : if b = true then A else B := by rw [e]; exact h
theorem andB {c d : Bool} {t : TE} (h1 : ∀ Q' : VK, Q' (.bl d) H → t σ H Q') (h : Q (.bl (c && d)) H) : if c = true then t σ H Q else Q (.bl false) H := by
  cases c with
  | true => exact h1 Q h
  | false => exact h
theorem orB {c d : Bool} {t : TE} (h1 : ∀ Q' : VK, Q' (.bl d) H → t σ H Q') (h : Q (.bl (c || d)) H) : if c = true then Q (.bl true) H else t σ H Q := by
  cases c with
  | true => exact h
  | false => exact h1 Q h
end
theorem lput {f : Str} {v : V} {fs : List (Str × V)} {n : Nat} (h : fs.length + 1 < n) : (putF f v fs).length < n := Nat.lt_of_le_of_lt (by have := length_putF f v fs; omega) h
theorem lputs {f : Str} {v : V} {fs : List (Str × V)} {n k : Nat} (h : fs.length + (k + 1) < n) : (putF f v fs).length + k < n := Nat.lt_of_le_of_lt (by have := length_putF f v fs; omega) h
theorem ty_tup {K : PySem.W.Frag} {H : Hp} {a : Addr} {xs : List V} (e : H a = some (.tup xs)) : TyX K H (.ref a) (.type "tuple") := .base (.tup e)
theorem ty_lst {K : PySem.W.Frag} {H : Hp} {a : Addr} {xs : List V} (e : H a = some (.lst xs)) : TyX K H (.ref a) (.type "list") := .base (.lst e)
section
variable {K : PySem.W.Frag}
theorem kit_int_int : PySem.W.kitOne K (.type "int") (.type "int") = some true := kit_ty (by decide +kernel)
theorem kit_bool_int : PySem.W.kitOne K (.type "bool") (.type "int") = some true := kit_ty (by decide +kernel)
theorem kit_str_int : PySem.W.kitOne K (.type "str") (.type "int") = some false := kit_ty (by decide +kernel)
theorem kit_none_int : PySem.W.kitOne K (.type "NoneType") (.type "int") = some false := kit_ty (by decide +kernel)
theorem kit_tuple_int : PySem.W.kitOne K (.type "tuple") (.type "int") = some false := kit_ty (by decide +kernel)
theorem kit_list_int : PySem.W.kitOne K (.type "list") (.type "int") = some false := kit_ty (by decide +kernel)
theorem kit_dict_int : PySem.W.kitOne K (.type "dict") (.type "int") = some false := kit_ty (by decide +kernel)
theorem kit_int_bool : PySem.W.kitOne K (.type "int") (.type "bool") = some false := kit_ty (by decide +kernel)
theorem kit_bool_bool : PySem.W.kitOne K (.type "bool") (.type "bool") = some true := kit_ty (by decide +kernel)
theorem kit_str_bool : PySem.W.kitOne K (.type "str") (.type "bool") = some false := kit_ty (by decide +kernel)
theorem kit_str_str : PySem.W.kitOne K (.type "str") (.type "str") = some true := kit_ty (by decide +kernel)
theorem kit_int_str : PySem.W.kitOne K (.type "int") (.type "str") = some false := kit_ty (by decide +kernel)
end
end Rd


/-! ## the operators of own classes, as rules of the layer -/
namespace Own
open PySem PySem.Spec PyProof.Rows L2
section
variable {X : Cx} {pins : List (Addr × Obj)} {σ : L2.St} {H : Hp} {s : Shared}
/-- a value of the layer is never the sign of a declined operator -/
theorem not_declined {v : V} {u : Value} (r : RelV v u) : u ≠ .notImplemented := by
  intro e
  subst e
  cases v with
  | non => cases (show Value.notImplemented = Value.none from r)
  | bl b => cases (show Value.notImplemented = Value.bool b from r)
  | int i => obtain ⟨t, q⟩ := (show ∃ t, Value.notImplemented = Value.int i t from r); cases q
  | str i => obtain ⟨t, q⟩ := (show ∃ t, Value.notImplemented = Value.str i t from r); cases q
  | byt i => obtain ⟨t, q⟩ := (show ∃ t, Value.notImplemented = Value.bytes i t from r); cases q
  | flt i => obtain ⟨t, q⟩ := (show ∃ t, Value.notImplemented = Value.float i t from r); cases q
  | ref a => cases (show Value.notImplemented = Value.ref a from r)
  | ty n => cases (show Value.notImplemented = Value.type n from r)
theorem back {M : Model} {A : Around} {E : Value → Shared → Prop} {m : Sem Value} {Q : VK} (h : wpAny M A m (EP X pins σ Q) E s) : wpAny M A m (PySem.W.CmpBack (EP X pins σ Q)) E s :=
  wpAny_mono h (fun u s' q => by
    have n : u ≠ .notImplemented := by
      obtain ⟨z, H', I, r, _⟩ := q
      exact not_declined r
    cases u <;> first | exact q | exact absurd rfl n) fun _ _ e => e
/-- an instance as the library's rules ask for it -/
theorem inst {a C dx : Addr} {fs : List (Str × V)} (I : Inv X pins σ H s) (h : H a = some (.ins C dx fs)) : ∃ od, PySem.W.InstAt s.heap a (PySem.W.instObj C dx) C od := by
  obtain ⟨mA, J, _⟩ := ins_get I.hok h
  obtain ⟨od, J, _⟩ := J.look
  exact ⟨_, J⟩
/-- the type of any value, told without a step that matters -/
theorem typed {M : Model} {x : V} {u : Value} {t : Value} (I : Inv X pins σ H s) (r : RelV x u) (ty : TyX X.K H x t) : PySem.W.Looks M s.heap (typeOf u) t := by
  obtain ⟨P, Z, p, _⟩ := kit_of I r ty
  exact Z.ty M s.heap I.kIn p
end

/-- an own method behind an operator -/
structure Sp1 (K : PySem.W.Frag) (C : Addr) (m : Str) (f : Addr) : Prop where
  at_ : PySem.W.findIn K (.ref C) m = some (some (.ref f))
  fn : PySem.W.isFn K (.ref f) = true
/-- a two-place operator of an own class -/
structure Bin (K : PySem.W.Frag) (C f : Addr) (op : Operator) : Prop where
  first : PySem.W.selfFirst K C = true
  at_ : PySem.W.findIn K (.ref C) (PySem.dunder op.info.2) = some (some (.ref f))
  fn : PySem.W.isFn K (.ref f) = true
/-- .. beside a value of the built-in type T -/
structure BinT (K : PySem.W.Frag) (C f : Addr) (op : Operator) (T : String) : Prop where
  b : Bin K C f op
  r : ∃ rc, PySem.W.findIn K (.ref C) (dunderR op.info.2) = some rc ∧ (rc = none ∨ ∃ g : Addr, rc = some (.ref g))
  l1 : ∃ fo, PySem.W.findIn K (.type T) (PySem.dunder op.info.2) = some fo
  l2 : ∃ ro, PySem.W.findIn K (.type T) (dunderR op.info.2) = some ro
  sub : PySem.W.subIn K (.type T) (.ref C) = some false

def rSame (C : Addr) (sp : Sp) (E : XK) : R2 := fun x y H Q => ∃ a b dx dy fs gs, x = .ref a ∧ y = .ref b ∧ H a = some (.ins C dx fs) ∧ H b = some (.ins C dy gs) ∧ sp [.ref a, .ref b] H Q E
def rLeft (C : Addr) (T : String) (sp : Sp) (E : XK) : R2 := fun x y H Q => ∃ a dx fs, x = .ref a ∧ H a = some (.ins C dx fs) ∧ (∀ u, RelV y u → typeOf u = pure (.type T)) ∧ sp [.ref a, y] H Q E
def rCmp (K : PySem.W.Frag) (C : Addr) (sp : Sp) (E : XK) : R2 := fun x y H Q => ∃ a dx fs t, x = .ref a ∧ H a = some (.ins C dx fs) ∧ TyX K H y t ∧ PySem.W.notFirst K C t = true ∧ sp [.ref a, y] H Q E
def rOne (C : Addr) (sp : Sp) (E : XK) : V → Hp → VK → Prop := fun x H Q => ∃ a dx fs, x = .ref a ∧ H a = some (.ins C dx fs) ∧ sp [.ref a] H Q E

section
variable {X : Cx} {CX : CXT} {k : Nat} {f C : Addr} {fd : FuncData} {ps : List Str} {sp : Sp} {E : XK} {op : Operator} {cop : CmpOp} {T : String}
theorem run2 {pins : List (Addr × Obj)} {σ : L2.St} {H : Hp} {s : Shared} {Q : VK} {x y : V} {u v : Value} (F : FnOk X.prog X.w X.K X.mg X.base CX k f fd ps sp) (hr : Room k X.A) (hb : Binds X.K fd ps []) (hx : Passes CX X E)
    (I : Inv X pins σ H s) (rx : RelV x u) (ry : RelV y v) (h : sp [x, y] H Q E) : wpAny (model X.prog X.w) X.A (call (.ref f) [u, v]) (EP X pins σ Q) X.xe s :=
  run_fn (us := [u, v]) (vs := [x, y]) F hr hb .nil hx I (.cons rx (.cons ry .nil)) h
theorem opS (F : FnOk X.prog X.w X.K X.mg X.base CX k f fd ps sp) (hr : Room k X.A) (B : Bin X.K C f op) (hb : Binds X.K fd ps []) (hx : Passes CX X E) : OpR X (binaryOp op) (rSame C sp E) := by
  rintro pins s σ H x y u v Q I rx ry ⟨a, b, dx, dy, fs, gs, rfl, rfl, ha, hb', q⟩
  cases rx
  cases ry
  obtain ⟨od, J⟩ := inst I ha
  obtain ⟨od', J'⟩ := inst I hb'
  obtain ⟨m, hF⟩ := I.fr
  exact PySem.W.binop_K hF I.ok.mod.kin J J'.type B.first B.at_ B.fn (back (run2 (x := .ref a) (y := .ref b) F hr hb hx I rfl rfl q))
theorem opT (F : FnOk X.prog X.w X.K X.mg X.base CX k f fd ps sp) (hr : Room k X.A) (B : BinT X.K C f op T) (hb : Binds X.K fd ps []) (hx : Passes CX X E) : OpR X (binaryOp op) (rLeft C T sp E) := by
  rintro pins s σ H x y u v Q I rx ry ⟨a, dx, fs, rfl, ha, ty, q⟩
  cases rx
  obtain ⟨od, J⟩ := inst I ha
  obtain ⟨m, hF⟩ := I.fr
  obtain ⟨⟨b1, b2, b3⟩, ⟨rc, r1, r2⟩, ⟨fo, l1⟩, ⟨ro, l2⟩, sb⟩ := B
  exact PySem.W.ksp_binT hF I.ok.mod.kin J (ty _ ry) b1 b2 b3 r1 r2 l1 l2 sb (back (run2 (x := .ref a) F hr hb hx I rfl ry q))
theorem iopT (F : FnOk X.prog X.w X.K X.mg X.base CX k f fd ps sp) (hr : Room k X.A) (h1 : PySem.W.selfFirst X.K C = true) (h2 : Sp1 X.K C (dunderI op.info.2) f) (hb : Binds X.K fd ps []) (hx : Passes CX X E) :
    OpR X (inplaceOp op) (fun x y H Q => ∃ a dx fs, x = .ref a ∧ H a = some (.ins C dx fs) ∧ sp [.ref a, y] H Q E) := by
  rintro pins s σ H x y u v Q I rx ry ⟨a, dx, fs, rfl, ha, q⟩
  cases rx
  obtain ⟨od, J⟩ := inst I ha
  obtain ⟨m, hF⟩ := I.fr
  exact PySem.W.ksp_inplace hF I.ok.mod.kin J h1 h2.at_ h2.fn (back (run2 (x := .ref a) F hr hb hx I rfl ry q))
theorem neg (F : FnOk X.prog X.w X.K X.mg X.base CX k f fd ps sp) (hr : Room k X.A) (B : Sp1 X.K C "__neg__" f) (hb : Binds X.K fd ps []) (hx : Passes CX X E) : UnR X (unaryOp .USub) (rOne C sp E) := by
  rintro pins s σ H x u Q I rx ⟨a, dx, fs, rfl, ha, q⟩
  cases rx
  obtain ⟨od, J⟩ := inst I ha
  obtain ⟨m, hF⟩ := I.fr
  exact PySem.W.ksp_neg hF I.ok.mod.kin J B.at_ B.fn (run_fn (us := [.ref a]) (vs := [.ref a]) F hr hb .nil hx I (.cons rfl .nil) q)
theorem cmp (F : FnOk X.prog X.w X.K X.mg X.base CX k f fd ps sp) (hr : Room k X.A) (B : Sp1 X.K C (cmpInfo cop).2.1 f) (hb : Binds X.K fd ps []) (hx : Passes CX X E)
    (ho : ∀ a b, compareOp cop a b = richCompare cop a b := by intro _ _; rfl) : OpR X (compareOp cop) (rCmp X.K C sp E) := by
  rintro pins s σ H x y u v Q I rx ry ⟨a, dx, fs, t, rfl, ha, ty, nf, q⟩
  cases rx
  obtain ⟨od, J⟩ := inst I ha
  obtain ⟨m, hF⟩ := I.fr
  rw [ho]
  exact PySem.W.cmp_K hr.units0 hF I.ok.mod.kin J (typed I ry ty) nf B.at_ B.fn (back (run2 (x := .ref a) F hr hb hx I rfl ry q))
/-- o[i] by the own __getitem__ -/
theorem item (F : FnOk X.prog X.w X.K X.mg X.base CX k f fd ps sp) (hr : Room k X.A) (B : Sp1 X.K C "__getitem__" f) (hq : PySem.W.noSeq X.K C = true) (hb : Binds X.K fd ps []) (hx : Passes CX X E) :
    OpR X getItem (fun x y H Q => ∃ a dx fs, x = .ref a ∧ H a = some (.ins C dx fs) ∧ sp [.ref a, y] H Q E) := by
  rintro pins s σ H x y u v Q I rx ry ⟨a, dx, fs, rfl, ha, q⟩
  cases rx
  obtain ⟨od, J⟩ := inst I ha
  obtain ⟨m, hF⟩ := I.fr
  exact PySem.W.getItem_K hF I.ok.mod.kin J hq B.at_ B.fn (run2 (x := .ref a) F hr hb hx I rfl ry q)
/-- x in o by the own __contains__, which gives a bool -/
theorem isin (F : FnOk X.prog X.w X.K X.mg X.base CX k f fd ps sp) (hr : Room k X.A) (B : Sp1 X.K C "__contains__" f) (hb : Binds X.K fd ps []) (hx : Passes CX X E) :
    OpR X (compareOp .In) (fun x y H Q => ∃ a dx fs, y = .ref a ∧ H a = some (.ins C dx fs) ∧ sp [.ref a, x] H (fun v H' => ∃ b, v = .bl b ∧ Q (.bl b) H') E) := by
  rintro pins s σ H x y u v Q I rx ry ⟨a, dx, fs, rfl, ha, q⟩
  cases ry
  obtain ⟨od, J⟩ := inst I ha
  obtain ⟨m, hF⟩ := I.fr
  refine PySem.W.in_K hF I.ok.mod.kin J B.at_ B.fn (wpAny_mono (run2 (x := .ref a) F hr hb hx I rfl rx q) (fun r s' hq => ?_) fun _ _ e => e)
  obtain ⟨z, H', I', rz, b, rfl, q'⟩ := hq
  cases rz
  exact wpAny_truthy_bool ⟨.bl b, H', I', rfl, q'⟩
/-- truth by the own __bool__ -/
theorem truth (F : FnOk X.prog X.w X.K X.mg X.base CX k f fd ps sp) (hr : Room k X.A) (B : Sp1 X.K C "__bool__" f) (hb : Binds X.K fd ps []) (hx : Passes CX X E) :
    TruR X (fun x H Q => ∃ a dx fs, x = .ref a ∧ H a = some (.ins C dx fs) ∧ sp [.ref a] H (fun v H' => ∃ b, v = .bl b ∧ Q b H') E) := by
  rintro pins s σ H x u Q I rx ⟨a, dx, fs, rfl, ha, q⟩
  cases rx
  obtain ⟨od, J⟩ := inst I ha
  obtain ⟨m, hF⟩ := I.fr
  refine PySem.W.truthy_K hF I.ok.mod.kin J B.at_ B.fn (wpAny_mono (run_fn (us := [.ref a]) (vs := [.ref a]) F hr hb .nil hx I (.cons rfl .nil) q) (fun r s' hq => ?_) fun _ _ e => e)
  obtain ⟨z, H', I', rz, b, rfl, q'⟩ := hq
  cases rz
  exact ⟨H', I', q'⟩
end
end Own
/-! ## int op own: the reflected operator; != by the inherited rule over the own ==; len; a call of an instance -/
namespace Own
open PySem PySem.Spec PyProof.Rows
section
variable {prog : Program} {w : World} {A : Around} {E : Value → Shared → Prop} {s : Shared} {K : PySem.W.Frag} {x C dx f : Addr} {od : Option Obj}
theorem decl_add {i : Int} {t : Tok} {Q : Shared → Prop} (h : s.heap.get? x = some (PySem.W.instObj C dx)) (hq : Q s) :
    wpAny (model prog w) A (Builtin.«int.__add__» ⟨[.int i t, .ref x], []⟩) (fun fin s' => ∃ v, fin = .done (.ret v) ∧ v = .notImplemented ∧ Q s') E s := by
  obtain ⟨hp, g, d, tk, os⟩ := s
  wp_walk using wpAny_load h
  exact ⟨_, rfl, rfl, hq⟩
theorem decl_sub {i : Int} {t : Tok} {Q : Shared → Prop} (h : s.heap.get? x = some (PySem.W.instObj C dx)) (hq : Q s) :
    wpAny (model prog w) A (Builtin.«int.__sub__» ⟨[.int i t, .ref x], []⟩) (fun fin s' => ∃ v, fin = .done (.ret v) ∧ v = .notImplemented ∧ Q s') E s := by
  obtain ⟨hp, g, d, tk, os⟩ := s
  wp_walk using wpAny_load h
  exact ⟨_, rfl, rfl, hq⟩
theorem decl_mul {i : Int} {t : Tok} {Q : Shared → Prop} (h : s.heap.get? x = some (PySem.W.instObj C dx)) (hq : Q s) :
    wpAny (model prog w) A (Builtin.«int.__mul__» ⟨[.int i t, .ref x], []⟩) (fun fin s' => ∃ v, fin = .done (.ret v) ∧ v = .notImplemented ∧ Q s') E s := by
  obtain ⟨hp, g, d, tk, os⟩ := s
  wp_walk using wpAny_load h
  exact ⟨_, rfl, rfl, hq⟩
end
end Own
namespace Own
open PySem PySem.Spec PyProof.Rows
section
variable {prog : Program} {w : World} {A : Around} {E : Value → Shared → Prop} {s : Shared} {K : PySem.W.Frag} {x C dx f f0 : Addr} {od : Option Obj} {op : Operator} {id : String}
/-- an int declines an operator beside an instance, then the instance's reflected one is asked -/
theorem binR {i : Int} {t : Tok} {Q : Value → Shared → Prop} (KX : K.In s.heap) (I : PySem.W.InstAt s.heap x (PySem.W.instObj C dx) C od) (hc : PySem.W.selfFirst K C = true)
    (h0 : PySem.W.findIn K (.ref C) (PySem.dunder op.info.2) = some (some (.ref f0))) (h1 : PySem.W.findIn K (.ref C) (dunderR op.info.2) = some (some (.ref f))) (hf : PySem.W.isFn K (.ref f) = true)
    (hsub : PySem.W.subIn K (.ref C) (.type "int") = some false) (hfill : fillsNumberSlot (.type "int") op.info.2 = pure true) (slot : Slot "int" (PySem.dunder op.info.2) id)
    (decl : wpAny (model prog w) A (call (.builtin id) [.int i t, .ref x]) (fun v s' => v = .notImplemented ∧ s'.heap = s.heap ∧ s'.gens = s.gens ∧ s'.drawn = s.drawn ∧ s'.os = s.os ∧ s'.toks = s.toks) E s)
    (h : wpAny (model prog w) A (call (.ref f) [.ref x, .int i t]) (PySem.W.CmpBack Q) E s) : wpAny (model prog w) A (binaryOp op (.int i t) (.ref x)) Q E s := by
  obtain ⟨cd, rest, hcd, hm⟩ := PySem.W.ksp_first hc
  rcases hi : op.info with ⟨sym, nm⟩
  rw [hi] at h0 h1 hfill slot
  dsimp only at h0 h1 hfill slot
  have two := PySem.W.ksp_try KX I h1 hf h
  obtain ⟨hh, g, d, tt, os⟩ := s
  have L1 : PySem.W.Looks (model prog w) hh (typeOf (.ref x)) (.ref C) := I.type
  have L3 : PySem.W.Looks (model prog w) hh (fillsNumberSlot (.ref C) nm) true := PySem.W.fills_K KX hcd hm h0
  have L5 : PySem.W.Looks (model prog w) hh (isSubtype (.ref C) (.type "int")) false := PySem.W.looks_subIn KX hsub
  have hne : (Value.type "int" == Value.ref C) = false := Bool.eq_false_iff.mpr fun q => by cases beq_iff_eq.mp q
  have hpy : numberSlotInPython (.type "int") nm = pure false := rfl
  have one : wpAny (model prog w) A (tryMethod (.int i t) (PySem.dunder nm) (.ref x)) (fun r s' => r = none ∧ s'.heap = hh ∧ s'.gens = g ∧ s'.drawn = d ∧ s'.os = os ∧ s'.toks = tt) E ⟨hh, g, d, tt, os⟩ :=
    wpAny_tryMethod_declines (T := "int") (typeIs_int _ i t) slot (wpAny_mono decl (fun v s' q => ⟨q.1, rfl, q.2⟩) fun _ _ e => e)
  simp only [binaryOp, hi]
  refine wpAny_holding (wpAny_bind ?_)
  unfold binaryOp1
  refine wpAny_bind (wpAny_typeOf (typeIs_int _ i t) (wpAny_bind (L1.at (wpAny_bind (wpAny_of_eq hfill ?_)))))
  simp only [hne, Bool.false_eq_true, if_false]
  refine wpAny_bind (L3.at ?_)
  simp only [Bool.and_self, if_true]
  refine wpAny_bind (L5.at ?_)
  simp only [Bool.false_eq_true, if_false, pure_bind, Bool.not_false, Bool.and_self, if_true, hpy]
  refine wpAny_bind (wpAny_mono one (fun r s' q => ?_) fun _ _ e => e)
  obtain ⟨h1, g1, d1, t1, o1⟩ := s'
  obtain ⟨rfl, q1, q2, q3, q4, q5⟩ := q
  dsimp only at q1 q2 q3 q4 q5
  subst q1 q2 q3 q4 q5
  dsimp only
  refine wpAny_bind (wpAny_mono two (fun r s' q => ?_) fun _ _ e => e)
  obtain ⟨v, rfl, q⟩ := q
  exact wpAny_bind (wpAny_rule (wpAny_pure (wpAny_pure q)))
end
end Own
namespace Own
open PySem PySem.Spec PyProof.Rows
theorem slot_ne : Slot "object" "__ne__" "object.__ne__" :=
  .of (T := "object") (name := "__ne__") (owner := "object") (n := "__ne__") (by rw [typeLookup_type, builtinLookup_eq_fast]; kernel_rfl) (by decide +kernel) (by decide +kernel) (by decide +kernel)
    (.inl (by decide +kernel)) (by rw [isSubtype_type]; kernel_rfl)
section
variable {prog : Program} {w : World} {A : Around} {E : Value → Shared → Prop} {s : Shared} {K : PySem.W.Frag} {x C dx f : Addr} {od : Option Obj} {b tb : Value}
theorem check_ne {M : Model} {Q : Unit → Shared → Prop} (I : PySem.W.InstAt s.heap x (PySem.W.instObj C dx) C od) (KX : K.In s.heap) (ho : PySem.W.subIn K (.ref C) (.type "object") = some true) (h : Q () s) :
    wpAny M A (checkBuiltinCall "object.__ne__" ⟨[.ref x, b], []⟩) Q E s := by
  have ha : argsOk "object.__ne__" ⟨[.ref x, b], []⟩ := by unfold argsOk; kernel_rfl
  have L : PySem.W.Looks M s.heap (isSubtype (.ref C) (.type "object")) true := PySem.W.looks_subIn KX ho
  have at_ := I.at_
  obtain ⟨hp, g, d, t, os⟩ := s
  simp only [checkBuiltinCall, F.cmpKind_ne, F.cmpSplit_ne]
  refine wpAny_bind ?_
  unfold isInstance
  repeat (first | (with_reducible refine wpAny_loadPart_at at_ ?_) | (with_reducible refine L.at ?_) | wp_step)
  exact h
/-- != of an instance whose class has an own == alone -/
theorem ne_K {Q : Value → Shared → Prop} (hu : A.units + 1 < cLine) (KX : K.In s.heap) (I : PySem.W.InstAt s.heap x (PySem.W.instObj C dx) C od) (hb : PySem.W.Looks (model prog w) s.heap (typeOf b) tb) (hn : PySem.W.notFirst K C tb = true)
    (h0 : PySem.W.findIn K (.ref C) "__ne__" = some (some (.builtin "object.__ne__"))) (h1 : PySem.W.findIn K (.ref C) "__eq__" = some (some (.ref f))) (hf : PySem.W.isFn K (.ref f) = true) (ho : PySem.W.subIn K (.ref C) (.type "object") = some true)
    (h : wpAny (model prog w) A.in1 (call (.ref f) [.ref x, b]) (fun v s' => ∃ c, v = .bool c ∧ Q (.bool (!c)) s') E s) : wpAny (model prog w) A (richCompare .NotEq (.ref x) b) Q E s := by
  have eqc : wpAny (model prog w) A.in1 (callSpecialIfBound? (.ref x) (Str.ofString "__eq__") [b]) (fun r s' => ∃ c, r = some (.bool c) ∧ Q (.bool (!c)) s') E s :=
    PySem.W.ifBound_K KX I h1 hf (wpAny_mono h (fun v s' ⟨c, e, q⟩ => ⟨c, by rw [e], q⟩) fun _ _ e => e)
  have body : wpAny (model prog w) A.in1 (Builtin.«object.__ne__» ⟨[.ref x, b], []⟩) (fun fin s' => ∃ v, fin = .done (.ret v) ∧ ∃ c, v = .bool (!c) ∧ Q (.bool (!c)) s') E s := by
    obtain ⟨hp, g, d, t, os⟩ := s
    unfold Builtin.«object.__ne__»
    repeat (first
      | with_reducible refine wpAny_cRoomFor hu ?_
      | (refine wpAny_bind (m := callSpecialIfBound? (.ref x) (Str.ofString "__eq__") [b]) (wpAny_mono eqc (fun r s' hr => ?_) fun _ _ e => e))
      | wp_step)
    obtain ⟨c, rfl, q⟩ := hr
    repeat (first
      | exact ⟨_, rfl, c, rfl, q⟩
      | exact wpAny_pure ⟨_, rfl, c, rfl, q⟩
      | (refine wpAny_bind (m := truthy (.bool _)) (wpAny_truthy_bool ?_))
      | wp_step)
  have one : wpAny (model prog w) A (tryCompare (.ref x) (Str.ofString "__ne__") b) (fun r s' => ∃ c, r = some (.bool (!c)) ∧ Q (.bool (!c)) s') E s := by
    unfold tryCompare
    refine wpAny_bind ?_
    simp only [callSpecialIfBound?, bindSpecialIfBound?]
    refine wpAny_holding (wpAny_bind (wpAny_bind (wpAny_bind (I.type.here ((PySem.W.looks_findIn KX h0).here ?_)))))
    have last : wpAny (model prog w) A (call (.builtin "object.__ne__") ([.ref x] ++ [b]) >>= fun v => pure (some v)) (fun a s' => wpAny (model prog w) A (match a with | some .notImplemented | none => pure none | some v => pure (some v)) (fun r s' => ∃ c, r = some (.bool (!c)) ∧ Q (.bool (!c)) s') E s') E s := by
      refine wpAny_bind (wpAny_call (codeAny_call_builtin slot_ne.plain F.cmpEntry_ne (check_ne I KX ho (wpAny_mono body (fun fin s' hv => ?_) fun _ _ e => e))))
      obtain ⟨v, rfl, c, rfl, q⟩ := hv
      exact wpAny_pure (wpAny_pure ⟨c, rfl, q⟩)
    refine wpAny_bind (wpAny_askSetting (wpAny_ite ?_))
    simp only [slot_ne.bind]
    split
    · exact wpAny_bind (wpAny_pure (wpAny_pure last))
    · exact wpAny_tryCatch (wpAny_bind (wpAny_pure (wpAny_pure last)))
  unfold richCompare
  simp only [PySem.oneThing_ref]
  refine wpAny_holding (wpAny_bind (wpAny_cRoomFor (Nat.lt_of_succ_lt hu) ?_))
  rw [cmpInfo_NotEq]
  dsimp only
  refine wpAny_bind (I.type.here (wpAny_bind (hb.here ?_)))
  have tail : wpAny (model prog w) A (tryCompare (.ref x) (Str.ofString "__ne__") b) (fun r s' => ∃ v, r = some v ∧ Q v s') E s :=
    wpAny_mono one (fun r s' ⟨c, e, q⟩ => ⟨_, e, q⟩) fun _ _ e => e
  split
  · rename_i q
    have e : PySem.W.subIn K tb (.ref C) = some false := by
      rcases Bool.or_eq_true_iff.mp hn with e | e
      · rw [beq_iff_eq.mp e] at q; simp at q
      · exact beq_iff_eq.mp e
    refine wpAny_bind ((PySem.W.looks_subIn KX e).here ?_)
    simp only [Bool.false_eq_true, if_false]
    refine wpAny_bind (wpAny_mono tail (fun r s' z => ?_) fun _ _ e => e)
    obtain ⟨v, rfl, hq⟩ := z
    exact wpAny_pure hq
  · refine wpAny_bind (wpAny_pure ?_)
    simp only [Bool.false_eq_true, if_false]
    refine wpAny_bind (wpAny_mono tail (fun r s' z => ?_) fun _ _ e => e)
    obtain ⟨v, rfl, hq⟩ := z
    exact wpAny_pure hq
end
end Own
namespace Own
open PySem PySem.Spec PyProof.Rows L2
section
variable {X : Cx} {CX : CXT} {k : Nat} {f f0 C : Addr} {fd : FuncData} {ps : List Str} {sp : Sp} {E : XK} {op : Operator}
/-- a call one step further in -/
theorem runIn {pins : List (Addr × Obj)} {σ : L2.St} {H : Hp} {s : Shared} {Q : VK} {us : List Value} {vs : List V} (F : FnOk X.prog X.w X.K X.mg X.base CX k f fd ps sp) (hr : Room (k + 1) X.A) (hb : Binds X.K fd ps []) (hx : Passes CX X E)
    (I : Inv X pins σ H s) (r : Vals vs us) (h : sp vs H Q E) : wpAny (model X.prog X.w) X.A.in1 (PySem.call (.ref f) us) (EP X pins σ Q) X.xe s := by
  have hl : us.length = ps.length := by rw [← r.length]; exact F.len _ _ _ _ h
  have hb' := hb s us I.kIn (by simpa using hl)
  rw [List.append_nil] at hb'
  refine wpAny_call (codeAny_mono (F.run X.A.in1 X.stack s H ⟨us, []⟩ us vs Q E hr.in1 I.env0.in1 hb' r h) fun r s' hq => ?_)
  cases r with
  | error e => exact hx pins σ H s e s' I hq
  | ok fl =>
    cases fl with
    | ret u => exact I.after hq
    | next => exact False.elim hq
    | brk => exact False.elim hq
    | cont => exact False.elim hq
structure BinR (K : PySem.W.Frag) (C f : Addr) (op : Operator) : Prop where
  first : PySem.W.selfFirst K C = true
  l : ∃ f0 : Addr, PySem.W.findIn K (.ref C) (PySem.dunder op.info.2) = some (some (.ref f0))
  at_ : PySem.W.findIn K (.ref C) (dunderR op.info.2) = some (some (.ref f))
  fn : PySem.W.isFn K (.ref f) = true
  sub : PySem.W.subIn K (.ref C) (.type "int") = some false
def rRight (C : Addr) (sp : Sp) (E : XK) : R2 := fun x y H Q => ∃ i a dx fs, x = .int i ∧ y = .ref a ∧ H a = some (.ins C dx fs) ∧ sp [.ref a, .int i] H Q E
theorem opR_of {id : String} {B : Builtin} (hfill : fillsNumberSlot (.type "int") op.info.2 = pure true) (slot : Slot "int" (PySem.dunder op.info.2) id) (entry : entryFor table id = some B) (args : ∀ a b : Value, argsOk id ⟨[a, b], []⟩)
    (decl : ∀ {prog : Program} {w : World} {A : Around} {E : Value → Shared → Prop} {s : Shared} {x C dx : Addr} {i : Int} {t : Tok} {Q : Shared → Prop}, s.heap.get? x = some (PySem.W.instObj C dx) → Q s →
      wpAny (model prog w) A (B ⟨[.int i t, .ref x], []⟩) (fun fin s' => ∃ v, fin = .done (.ret v) ∧ v = .notImplemented ∧ Q s') E s)
    (F : FnOk X.prog X.w X.K X.mg X.base CX k f fd ps sp) (hr : Room k X.A) (Z : BinR X.K C f op) (hb : Binds X.K fd ps []) (hx : Passes CX X E) : OpR X (binaryOp op) (rRight C sp E) := by
  rintro pins s σ H x y u v Q I rx ry ⟨i, a, dx, fs, rfl, rfl, ha, q⟩
  obtain ⟨t, rfl⟩ := (show ∃ t, u = Value.int i t from rx)
  cases ry
  obtain ⟨od, J⟩ := inst I ha
  obtain ⟨z1, ⟨f0, z2⟩, z3, z4, z5⟩ := Z
  exact binR I.kIn J z1 z2 z3 z4 z5 hfill slot (wpAny_call_entry slot (typeIs_int s i t) entry (wpAny_mono (decl (Q := fun s' => s'.heap = s.heap ∧ s'.gens = s.gens ∧ s'.drawn = s.drawn ∧ s'.os = s.os ∧ s'.toks = s.toks) J.at_ ⟨rfl, rfl, rfl, rfl, rfl⟩) (fun fin s' ⟨v, e, q⟩ => ⟨v, e, q⟩) fun _ _ e => e) (args _ _))
    (back (run2 (x := .ref a) (y := .int i) F hr hb hx I rfl ⟨t, rfl⟩ q))
theorem opRadd (F : FnOk X.prog X.w X.K X.mg X.base CX k f fd ps sp) (hr : Room k X.A) (Z : BinR X.K C f .Add) (hb : Binds X.K fd ps []) (hx : Passes CX X E) : OpR X (binaryOp .Add) (rRight C sp E) :=
  opR_of PySem.F.fills_int_add PySem.F.slot_int_add PySem.F.entry_int_add PySem.F.args_int_add_2 decl_add F hr Z hb hx
theorem opRsub (F : FnOk X.prog X.w X.K X.mg X.base CX k f fd ps sp) (hr : Room k X.A) (Z : BinR X.K C f .Sub) (hb : Binds X.K fd ps []) (hx : Passes CX X E) : OpR X (binaryOp .Sub) (rRight C sp E) :=
  opR_of PySem.F.fills_int_sub PySem.F.slot_int_sub PySem.F.entry_int_sub PySem.F.args_int_sub_2 decl_sub F hr Z hb hx
theorem opRmul (F : FnOk X.prog X.w X.K X.mg X.base CX k f fd ps sp) (hr : Room k X.A) (Z : BinR X.K C f .Mult) (hb : Binds X.K fd ps []) (hx : Passes CX X E) : OpR X (binaryOp .Mult) (rRight C sp E) :=
  opR_of PySem.F.fills_int_mul PySem.F.slot_int_mul PySem.F.entry_int_mul PySem.F.args_int_mul_2 decl_mul F hr Z hb hx
structure Ne (K : PySem.W.Frag) (C f : Addr) : Prop where
  ne : PySem.W.findIn K (.ref C) "__ne__" = some (some (.builtin "object.__ne__"))
  eq : PySem.W.findIn K (.ref C) "__eq__" = some (some (.ref f))
  fn : PySem.W.isFn K (.ref f) = true
  ob : PySem.W.subIn K (.ref C) (.type "object") = some true
def rNeOwn (K : PySem.W.Frag) (C : Addr) (sp : Sp) (E : XK) : R2 := fun x y H Q => ∃ a dx fs t, x = .ref a ∧ H a = some (.ins C dx fs) ∧ TyX K H y t ∧ PySem.W.notFirst K C t = true ∧ sp [.ref a, y] H (fun v H' => ∃ b, v = .bl b ∧ Q (.bl (!b)) H') E
theorem ne (F : FnOk X.prog X.w X.K X.mg X.base CX k f fd ps sp) (hr : Room (k + 1) X.A) (Z : Ne X.K C f) (hb : Binds X.K fd ps []) (hx : Passes CX X E) : OpR X (compareOp .NotEq) (rNeOwn X.K C sp E) := by
  rintro pins s σ H x y u v Q I rx ry ⟨a, dx, fs, t, rfl, ha, ty, nf, q⟩
  cases rx
  obtain ⟨od, J⟩ := inst I ha
  have hu : X.A.units + 1 < cLine := hu_of hr
  exact ne_K hu I.kIn J (typed I ry ty) nf Z.ne Z.eq Z.fn Z.ob (wpAny_mono (runIn (us := [.ref a, v]) (vs := [.ref a, y]) F hr hb hx I (.cons rfl (.cons ry .nil)) q) (fun r s' hq => by
    obtain ⟨z, H', I', rz, b, rfl, q'⟩ := hq
    cases rz
    exact ⟨b, rfl, .bl (!b), H', I', rfl, q'⟩) fun _ _ e => e)
/-- len(o) by the own __len__ -/
theorem len (F : FnOk X.prog X.w X.K X.mg X.base CX k f fd ps sp) (hr : Room (k + 1) X.A) (B : Sp1 X.K C "__len__" f) (hb : Binds X.K fd ps []) (hx : Passes CX X E) :
    CallR X (.builtin "len") (fun xs H Q => ∃ a dx fs, xs = [.ref a] ∧ H a = some (.ins C dx fs) ∧ sp [.ref a] H (fun v H' => ∃ n, v = .int n ∧ 0 ≤ n ∧ n < 2 ^ 63 ∧ Q (.int n) H') E) := by
  rintro pins s σ H xs us Q I rs ⟨a, dx, fs, rfl, ha, q⟩
  cases rs with
  | cons r rest =>
    cases rest
    cases r
    obtain ⟨od, J⟩ := inst I ha
    obtain ⟨m, hF⟩ := I.fr
    refine PySem.W.len_K hF I.ok.mod.kin J B.at_ B.fn (wpAny_mono (runIn (us := [.ref a]) (vs := [.ref a]) F hr hb hx I (.cons rfl .nil) q) (fun r s' hq => ?_) fun _ _ e => e)
    obtain ⟨z, H', I', rz, n, rfl, h0, h1, q'⟩ := hq
    obtain ⟨t, rfl⟩ := (show ∃ t, r = Value.int n t from rz)
    exact ⟨⟨h0, h1⟩, .int n, H', I'.tok _, ⟨_, rfl⟩, q'⟩
end
theorem fnR_of {P : Program} {w : World} {K : PySem.W.Frag} {mg : Str → Option Value} {base : Heap} {CX : CXT} {k : Nat} {f : Addr} {fd : FuncData} {ps : List Str} {sp : Sp} (F : FnOk P w K mg base CX k f fd ps sp) (hb : Binds K fd ps []) : FnR P w K mg base CX k f sp := by
  intro A outer s H us vs Q E hr e0 r h
  have KX : K.In s.heap := e0.mod.kin.keeps fun b o e => (e0.bs b o e).1
  have hl : us.length = ps.length := by rw [← r.length]; exact F.len _ _ _ _ h
  have hb' := hb s us KX (by simpa using hl)
  rw [List.append_nil] at hb'
  exact F.run A outer s H ⟨us, []⟩ us vs Q E hr e0 hb' r h
def rIop (C : Addr) (sp : Sp) (E : XK) : R2 := fun x y H Q => ∃ a dx fs, x = .ref a ∧ H a = some (.ins C dx fs) ∧ sp [.ref a, y] H Q E
theorem pip {X : Cx} {C : Addr} {sp : Sp} {E : XK} {op : Operator} (h : OpR X (inplaceOp op) (fun x y H Q => ∃ a dx fs, x = .ref a ∧ H a = some (.ins C dx fs) ∧ sp [.ref a, y] H Q E)) : PIp X op (rIop C sp E) :=
  fun pins s σ H x y v u Q I rx ry q => h pins s σ H x y v u Q I rx ry q
theorem iop2 {H : Hp} {Q : VK} {C a dx : Addr} {sp : Sp} {E : XK} {fs : List (Str × V)} {y : V} (ha : H a = some (.ins C dx fs)) (h : sp [.ref a, y] H Q E) : rIop C sp E (.ref a) y H Q := ⟨a, dx, fs, rfl, ha, h⟩
/-- f(e, ..), f an expression that gives an instance of C: the reading speaks of the heap alone -/
def tCallI (C : Addr) (sp : Sp) (E : XK) (tf : TE) (t : TA) : TE := fun σ H Q => tf σ H fun y H1 => ∃ a, y = V.ref a ∧ t σ H1 fun vs H2 => (∃ dx fs, H2 a = some (.ins C dx fs)) ∧ sp (V.ref a :: vs) H2 Q E
theorem pe_callI {X : Cx} {CX : CXT} {k : Nat} {g C : Addr} {sp : Sp} {E : XK} {fe e : Expr} {es : List Expr} {tf : TE} {t : TA} {pos : Pos} (hf : PE X fe tf) (c : StX.CallO X.K C g) (F : FnR X.prog X.w X.K X.mg X.base CX k g sp) (hr : Room k X.A) (hx : Passes CX X E) (ha : PA X (e :: es) t)
    (ht : eval (.Call fe (e :: es) [] pos) X.env = (do callWith pos (← eval fe X.env) [] (backTo pos (starEach (e :: es) X.env)) (backToKw pos (keywordEach [] X.env))) := by rfl)
    (he : starEach (e :: es) X.env = (false, eval e X.env) :: starEach es X.env := by rfl) (hpl : (backTo pos (starEach es X.env)).any (·.1) = false := by rfl) : PE X (.Call fe (e :: es) [] pos) (tCallI C sp E tf t) := by
  refine ⟨fun pins s σ H Q I h => Call_ (thn (hf.run pins s σ H _ I h) fun u s1 z => ?_) ht⟩
  obtain ⟨y, H1, I1, ry, a, rfl, q⟩ := z
  cases ry
  refine StX.callO_with (thn (ha.run pos pins s1 σ H1 _ I1 q) fun us s2 z2 => ?_) he hpl
  obtain ⟨vs, H2, I2, r, hi, q2⟩ := z2
  obtain ⟨od, J⟩ : ∃ od, PySem.W.InstAt s2.heap a (PySem.W.instObj C hi.choose) C od := inst I2 hi.choose_spec.choose_spec
  exact ⟨⟨C, _, od, J, rfl⟩, StX.run_callO c F hr hx I2 (.inr hi) r q2⟩
section
variable {σ : L2.St} {H : Hp} {Q : VK} {C : Addr} {sp : Sp} {E : XK}
theorem opS2 {a b dx dy : Addr} {fs gs : List (Str × V)} (ha : H a = some (.ins C dx fs)) (hb : H b = some (.ins C dy gs)) (h : sp [.ref a, .ref b] H Q E) : rSame C sp E (.ref a) (.ref b) H Q := ⟨a, b, dx, dy, fs, gs, rfl, rfl, ha, hb, h⟩
theorem opT2 {a dx : Addr} {fs : List (Str × V)} {T : String} {y : V} (ha : H a = some (.ins C dx fs)) (ty : ∀ u, RelV y u → typeOf u = pure (.type T)) (h : sp [.ref a, y] H Q E) : rLeft C T sp E (.ref a) y H Q := ⟨a, dx, fs, rfl, ha, ty, h⟩
theorem opR2 {a dx : Addr} {fs : List (Str × V)} {i : Int} (ha : H a = some (.ins C dx fs)) (h : sp [.ref a, .int i] H Q E) : rRight C sp E (.int i) (.ref a) H Q := ⟨i, a, dx, fs, rfl, rfl, ha, h⟩
theorem neg2 {a dx : Addr} {fs : List (Str × V)} (ha : H a = some (.ins C dx fs)) (h : sp [.ref a] H Q E) : rOne C sp E (.ref a) H Q := ⟨a, dx, fs, rfl, ha, h⟩
theorem cmp2 {K : PySem.W.Frag} {a dx : Addr} {fs : List (Str × V)} {y : V} {t : Value} (ha : H a = some (.ins C dx fs)) (ty : TyX K H y t) (nf : PySem.W.notFirst K C t = true) (h : sp [.ref a, y] H Q E) : rCmp K C sp E (.ref a) y H Q := ⟨a, dx, fs, t, rfl, ha, ty, nf, h⟩
theorem ne2 {K : PySem.W.Frag} {a dx : Addr} {fs : List (Str × V)} {y : V} {t : Value} (ha : H a = some (.ins C dx fs)) (ty : TyX K H y t) (nf : PySem.W.notFirst K C t = true) (h : sp [.ref a, y] H (fun v H' => ∃ b, v = .bl b ∧ Q (.bl (!b)) H') E) : rNeOwn K C sp E (.ref a) y H Q := ⟨a, dx, fs, t, rfl, ha, ty, nf, h⟩
theorem callI {tf : TE} {t : TA} (h : tf σ H fun y H1 => ∃ a, y = V.ref a ∧ t σ H1 fun vs H2 => (∃ dx fs, H2 a = some (.ins C dx fs)) ∧ sp (V.ref a :: vs) H2 Q E) : tCallI C sp E tf t σ H Q := h
theorem ty_int {i : Int} : ∀ u, RelV (.int i) u → typeOf u = pure (.type "int") := by
  rintro u ⟨t, rfl⟩
  rfl
end
end Own
/-! ## lists made of lists, and what == says of ints -/
namespace Rd
open PySem PySem.Spec PyProof.Rows L2
theorem lc {wi : TI} {g : TG} {tt : TT} {te : TE} {vs : List Nat} {σ : L2.St} {H : Hp} {Q : VK} (h : wi σ H fun J H1 => ∀ D, H1 D = none → ∃ W : Nat → Nat → Hp → Prop, (∃ m, W 0 m (upd H1 D (.lst []))) ∧ ∀ i m H, W i m H →
    (J.stop i H ∧ Q (.ref D) H) ∨ (J.go i H ∧ ∃ Nx : Hp → Prop, (∀ H', Nx H' → ∃ m', m' < m ∧ W (i + 1) m' H') ∧ ∀ x H', J.yld i H x H' → g x (wipe σ vs) H' fun σ2 H2 => wipe σ2 vs = wipe σ vs ∧ tt σ2 H2 fun b H3 =>
      if b = true then te σ2 H3 fun y H4 => ∃ acc, H4 D = some (.lst acc) ∧ acc.length < sizeLine ∧ Nx (upd H4 D (.lst (acc ++ [y]))) else Nx H3)) : tLc wi g tt te vs σ H Q := h
theorem il {K : PySem.W.Frag} {tl : TE} {σ : L2.St} {H : Hp} {R : It → Hp → Prop} (h : tl σ H fun x H1 => ∃ a, x = .ref a ∧ (∃ xs, SqL K H1 a xs) ∧ R (Itl K a) H1) : iList K tl σ H R := h
theorem same_upd {H H' : Hp} {D : Addr} {o : HO} (hD : H D = none) (S : Same H H') : Same H (upd H' D o) := fun b u e => by
  rw [upd_ne (ne_of_none e hD)]
  exact S b u e
/-- [e for x in l]: the items' images, where e makes the image and leaves what was tracked -/
theorem lcMap {α : Type} {items : List α} {inj res : α → V} {K : PySem.W.Frag} {a : Addr} {i : Nat} {te : TE} {vs : List Nat} {σ : L2.St} {H : Hp} {Q : VK} (hs : SqL K H a (items.map inj)) (hn : items.length ≤ 1000)
    (hw : ∀ x, wipe ((wipe σ vs).set i (some x)) vs = wipe σ vs)
    (elem : ∀ x ∈ items, ∀ H', Same H H' → ∀ R : VK, (∀ H'', Same H' H'' → R (res x) H'') → te ((wipe σ vs).set i (some (inj x))) H' R)
    (k : ∀ (p : Addr) (H' : Hp), H p = none → Same H H' → H' p = some (.lst (items.map res)) → Q (.ref p) H') :
    (∃ xs, SqL K H a xs) ∧ ∀ D, H D = none → ∃ W : Nat → Nat → Hp → Prop, (∃ m, W 0 m (upd H D (.lst []))) ∧ ∀ t m H, W t m H →
      ((Itl K a).stop t H ∧ Q (.ref D) H) ∨ ((Itl K a).go t H ∧ ∃ Nx : Hp → Prop, (∀ H', Nx H' → ∃ m', m' < m ∧ W (t + 1) m' H') ∧ ∀ x H', (Itl K a).yld t H x H' → (gName i) x (wipe σ vs) H' fun σ2 H2 => wipe σ2 vs = wipe σ vs ∧ tYes σ2 H2 fun b H3 =>
        if b = true then te σ2 H3 fun y H4 => ∃ acc, H4 D = some (.lst acc) ∧ acc.length < sizeLine ∧ Nx (upd H4 D (.lst (acc ++ [y]))) else Nx H3) := by
  refine ⟨⟨_, hs⟩, fun D hD => lc_list (xs := items.map inj) (fun t H' => Same H H' ∧ H' D = some (.lst ((items.take t).map res))) ⟨same_upd hD (Same.refl _), upd_same⟩ (fun t H' _ p => p.1.seq hs) (fun t x H' hx p => ?_) (fun H' p => ?_)⟩
  · obtain ⟨S, hl⟩ := p
    rw [List.getElem?_map] at hx
    cases e : items[t]? with
    | none => rw [e] at hx; cases hx
    | some y =>
      rw [e] at hx
      cases hx
      have hy : y ∈ items := List.mem_of_getElem? e
      have ht : t < items.length := (List.getElem?_eq_some_iff.mp e).1
      refine ⟨hw _, iteT (B := Same H H' ∧ H' D = some (.lst ((items.take (t + 1)).map res))) rfl (elem y hy H' S _ fun H'' S' => ⟨_, S' _ _ hl, ?_, ?_, ?_⟩)⟩
      · rw [List.length_map, List.length_take]
        exact small1000 (by omega)
      · exact same_upd hD (S.trans S')
      · rw [upd_same, List.take_add_one, e]
        simp
  · obtain ⟨S, hl⟩ := p
    rw [List.length_map, List.take_length] at hl
    exact k D H' hD S hl
theorem lcMapI {ns : List Int} {g : Int → Int} {K : PySem.W.Frag} {a : Addr} {i : Nat} {te : TE} {vs : List Nat} {σ : L2.St} {H : Hp} {Q : VK} (hs : SqL K H a (ns.map V.int)) (hn : ns.length ≤ 1000)
    (hw : ∀ x, wipe ((wipe σ vs).set i (some x)) vs = wipe σ vs)
    (elem : ∀ x ∈ ns, ∀ H', Same H H' → ∀ R : VK, (∀ H'', Same H' H'' → R (.int (g x)) H'') → te ((wipe σ vs).set i (some (.int x))) H' R)
    (k : ∀ (p : Addr) (H' : Hp), H p = none → Same H H' → H' p = some (.lst ((ns.map g).map V.int)) → Q (.ref p) H') :
    (∃ xs, SqL K H a xs) ∧ ∀ D, H D = none → ∃ W : Nat → Nat → Hp → Prop, (∃ m, W 0 m (upd H D (.lst []))) ∧ ∀ t m H, W t m H →
      ((Itl K a).stop t H ∧ Q (.ref D) H) ∨ ((Itl K a).go t H ∧ ∃ Nx : Hp → Prop, (∀ H', Nx H' → ∃ m', m' < m ∧ W (t + 1) m' H') ∧ ∀ x H', (Itl K a).yld t H x H' → (gName i) x (wipe σ vs) H' fun σ2 H2 => wipe σ2 vs = wipe σ vs ∧ tYes σ2 H2 fun b H3 =>
        if b = true then te σ2 H3 fun y H4 => ∃ acc, H4 D = some (.lst acc) ∧ acc.length < sizeLine ∧ Nx (upd H4 D (.lst (acc ++ [y]))) else Nx H3) :=
  lcMap (inj := V.int) (res := fun x => .int (g x)) hs hn hw elem fun p H' hp S h => k p H' hp S (by rw [List.map_map]; exact h)
theorem lcVarI {ns : List Int} {g : Int → Int} {K : PySem.W.Frag} {a : Addr} {i j : Nat} {te : TE} {vs : List Nat} {σ : L2.St} {H : Hp} {Q : VK} (ej : σ[j]? = some (some (.ref a))) (hs : SqL K H a (ns.map V.int)) (hn : ns.length ≤ 1000)
    (hw : ∀ x, wipe ((wipe σ vs).set i (some x)) vs = wipe σ vs)
    (elem : ∀ x ∈ ns, ∀ H', Same H H' → ∀ R : VK, (∀ H'', Same H' H'' → R (.int (g x)) H'') → te ((wipe σ vs).set i (some (.int x))) H' R)
    (k : ∀ (p : Addr) (H' : Hp), H p = none → Same H H' → H' p = some (.lst ((ns.map g).map V.int)) → Q (.ref p) H') : tLc (iList K (tVar j)) (gName i) tYes te vs σ H Q :=
  lc (il ⟨_, ej, _, rfl, lcMapI hs hn hw elem k⟩)
/-- [e for x in l if t] where t never holds: a new empty list -/
theorem lcNone {items : List V} {K : PySem.W.Frag} {a : Addr} {i j : Nat} {te : TE} {tt : TT} {vs : List Nat} {σ : L2.St} {H : Hp} {Q : VK} (ej : σ[j]? = some (some (.ref a))) (hs : SqL K H a items)
    (hw : ∀ x, wipe ((wipe σ vs).set i (some x)) vs = wipe σ vs)
    (test : ∀ x ∈ items, ∀ H', Same H H' → ∀ R : Bool → Hp → Prop, (∀ H'', Same H' H'' → R false H'') → tt ((wipe σ vs).set i (some x)) H' R)
    (k : ∀ (p : Addr) (H' : Hp), H p = none → Same H H' → H' p = some (.lst []) → Q (.ref p) H') : tLc (iList K (tVar j)) (gName i) tt te vs σ H Q := by
  refine lc (il ⟨_, ej, _, rfl, ⟨_, hs⟩, fun D hD => lc_list (xs := items) (fun _ H' => Same H H' ∧ H' D = some (.lst [])) ⟨same_upd hD (Same.refl _), upd_same⟩ (fun t H' _ p => p.1.seq hs) (fun t x H' hx p => ?_) (fun H' p => k D H' hD p.1 p.2)⟩)
  obtain ⟨S, hl⟩ := p
  refine ⟨hw _, test x (List.mem_of_getElem? hx) H' S _ fun H'' S' => ?_⟩
  exact iteF (A := te _ H'' _) rfl ⟨S.trans S', S' _ _ hl⟩
theorem mulB {a n : Int} {A B : Nat} (ha : a.natAbs < 2 ^ A) (hn : n.natAbs < 2 ^ B) : -(2 ^ (A + B)) < a * n ∧ a * n < 2 ^ (A + B) := by
  have h := wide_lt ha hn
  have e : ((2 ^ (A + B) : Nat) : Int) = (2 : Int) ^ (A + B) := by simp
  rw [← e]
  omega
theorem dp_ints {K : PySem.W.Frag} {H : Hp} : ∀ ns : List Int, DpAll K H (ns.map V.int) (ns.map PyData.int)
  | [] => .nil
  | _ :: r => .cons (.int _) (dp_ints r)
theorem dp_listI {K : PySem.W.Frag} {H : Hp} {a : Addr} {ns : List Int} (h : SqL K H a (ns.map V.int)) : Dp K H (.ref a) (.list (ns.map PyData.int)) := .lst h (dp_ints ns)
theorem can_ints : ∀ ns : List Int, PyData.canLayAll0 (ns.map PyData.int) = true
  | [] => by simp [PyData.canLayAll0]
  | _ :: r => by simp only [List.map_cons, PyData.canLayAll0, PyData.canLay0, can_ints r, Bool.and_self]
theorem dep_ints : ∀ ns : List Int, PyData.depthAll (ns.map PyData.int) = 0
  | [] => by simp [PyData.depthAll]
  | _ :: r => by simp only [List.map_cons, PyData.depthAll, PyData.depth, dep_ints r, Nat.max_self]
theorem shaped_listI (ns : List Int) : SeqAt.shaped (.list (ns.map PyData.int)) = true := by
  simp only [SeqAt.shaped, PyData.canLay0, can_ints, PyData.depth, dep_ints]
  decide
theorem eqvAll_ints : ∀ ns ms : List Int, PyData.eqvAll (ns.map PyData.int) (ms.map PyData.int) = decide (ns = ms)
  | [], [] => by simp [PyData.eqvAll]
  | [], _ :: _ => by simp [PyData.eqvAll]
  | _ :: _, [] => by simp [PyData.eqvAll]
  | x :: r, y :: q => by
    simp only [List.map_cons, PyData.eqvAll, PyData.eqv, eqvAll_ints r q]
    by_cases h : x = y
    · subst h; simp
    · simp [h]
theorem eqv_listI (ns ms : List Int) : PyData.eqv (.list (ns.map PyData.int)) (.list (ms.map PyData.int)) = decide (ns = ms) := by
  simp only [PyData.eqv, eqvAll_ints]
theorem eqv_pair (a b c d : Int) : PyData.eqv (.tuple [.int a, .int b]) (.tuple [.int c, .int d]) = (a == c && b == d) := by
  simp [PyData.eqv, PyData.eqvAll]
theorem eqv_pairV (a b c d : Int) : PyData.eqv (.tuple [.int a, .int b]) (.tuple [.int c, .int d]) = (decide (V.int a = .int c) && decide (V.int b = .int d)) := by
  simp only [PyData.eqv, PyData.eqvAll, Bool.and_true, V.int.injEq]
  rw [Bool.eq_iff_iff]
  simp
theorem dp_pair {K : PySem.W.Frag} {H : Hp} {p : Addr} {a b : Int} (h : SqT K H p [.int a, .int b]) : Dp K H (.ref p) (.tuple [.int a, .int b]) := .tup h (.cons (.int _) (.cons (.int _) .nil))
theorem shaped_pair (a b : Int) : SeqAt.shaped (.tuple [.int a, .int b]) = true := by
  simp only [SeqAt.shaped, PyData.canLay0, PyData.canLayAll0, PyData.depth, PyData.depthAll]
  rfl
theorem isi {X : Cx} {K : PySem.W.Frag} (e : X.K = K) : CallR X (.builtin "isinstance") (rIsi K) := e ▸ call_isi
theorem dp_nil {K : PySem.W.Frag} {H : Hp} {p : Addr} (h : SqL K H p []) : Dp K H (.ref p) (.list []) := .lst h .nil
theorem eqv_nil : PyData.eqv (.list []) (.list []) = true := by simp [PyData.eqv, PyData.eqvAll]
theorem shaped_nil : SeqAt.shaped (.list []) = true := by
  simp only [SeqAt.shaped, PyData.canLay0, PyData.canLayAll0, PyData.depth, PyData.depthAll]
  rfl
/-- an item of a written list of ints at a drawn place -/
theorem pick {ns : List Int} {lo hi : Int} {K : PySem.W.Frag} {H : Hp} {a : Addr} {xs : List V} {d : Int} {Q : VK} (hm : ∀ n ∈ ns, lo ≤ n ∧ n ≤ hi) (e : SqL K H a xs) (eq : xs = ns.map V.int) (h0 : 0 ≤ d) (h1 : d < (ns.length : Int))
    (h : ∀ n : Int, n ∈ ns → lo ≤ n → n ≤ hi → Q (.int n) H) : rIxL K (.ref a) (.int d) H Q := by
  subst eq
  obtain ⟨j, rfl⟩ : ∃ j : Nat, d = (j : Int) := ⟨d.toNat, by omega⟩
  have hj : j < ns.length := by omega
  have hn : ns[j] ∈ ns := List.getElem_mem hj
  exact ⟨a, _, _, .int ns[j], rfl, rfl, e, atI_nat (by rw [List.getElem?_map, List.getElem?_eq_getElem hj]; rfl), h _ hn (hm _ hn).1 (hm _ hn).2⟩
theorem sgn {d n B : Int} (h0 : 0 ≤ d) (h1 : d < B) (m : n ∈ [(1 : Int), -1]) : -B < d * n ∧ d * n < B := by
  simp only [List.mem_cons, List.not_mem_nil, or_false] at m
  rcases m with rfl | rfl <;> omega
end Rd
/-! ## pairs in order, lists of truths -/
namespace Rd
open PySem PySem.Spec PyProof.Rows L2
/-- what an order of pairs says: rr of the first unlike parts, z where all are alike -/
def rPr (K : PySem.W.Frag) (z : Bool) (rr : Int → Int → Bool) : R2 := fun x y H Q => ∃ (p q : Addr) (a b c d : Int), x = .ref p ∧ y = .ref q ∧ SqT K H p [.int a, .int b] ∧ SqT K H q [.int c, .int d] ∧ Q (.bl (if a = c then (if b = d then z else rr b d) else rr a c)) H
theorem pair_ints {us : List Value} {a b : Int} (h : IntsAre us [a, b]) : ∃ t u, us = [.int a t, .int b u] := by
  cases h with
  | cons _ t h1 =>
    cases h1 with
    | cons _ u h2 =>
      cases h2
      exact ⟨t, u, rfl⟩
theorem opPr {X : Cx} {op : CmpOp} {z : Bool} {rr : Int → Int → Bool}
    (T : ∀ {s : Shared} {l m : Addr} {u1 u2 w1 w2 : Value} {e r : Nat → Bool}, s.heap.IsTuple l #[u1, u2] → s.heap.IsTuple m #[w1, w2] →
      (∀ j (h1 : j < (#[u1, u2] : Array Value).size) (h2 : j < (#[w1, w2] : Array Value).size), SeqAt.EqAt X.A.in1 s (#[u1, u2] : Array Value)[j] (#[w1, w2] : Array Value)[j] (e j)) →
      (∀ j (h1 : j < (#[u1, u2] : Array Value).size) (h2 : j < (#[w1, w2] : Array Value).size), e j = false → Ob.RcOp op X.A.in1 s (#[u1, u2] : Array Value)[j] (#[w1, w2] : Array Value)[j] (r j)) → Ob.RcOp op X.A s (.ref l) (.ref m) (Ob.lexAt e r z 0 2))
    (I1 : ∀ {s : Shared} (a b : Int) (t u : Tok), Ob.RcOp op X.A.in1 s (.int a t) (.int b u) (rr a b))
    (hop : ∀ (x y : Value), compareOp op x y = richCompare op x y) : OpR X (compareOp op) (rPr X.K z rr) := by
  intro pins s σ H x y v u Q I rx ry h
  obtain ⟨p, q, a, b, c, d, rfl, rfl, hp, hq, k⟩ := h
  cases rx
  cases ry
  obtain ⟨us, r1, p1, _⟩ := I.tuple hp
  obtain ⟨ws, r2, p2, _⟩ := I.tuple hq
  obtain ⟨t1, t2, rfl⟩ := pair_ints (Vals.ints (ns := [a, b]) r1)
  obtain ⟨t3, t4, rfl⟩ := pair_ints (Vals.ints (ns := [c, d]) r2)
  have R := T (s := s) (e := fun j => if j = 0 then decide (a = c) else decide (b = d)) (r := fun j => if j = 0 then rr a c else rr b d) p1 p2 (fun j h1 h2 => by
    rcases j with _ | _ | j
    · have w := SeqAt.EqAt.int_int (A := X.A.in1) (s := s) a t1 c t3
      rw [show (a == c) = decide (a = c) from by by_cases e : a = c <;> simp [e]] at w
      exact w
    · have w := SeqAt.EqAt.int_int (A := X.A.in1) (s := s) b t2 d t4
      rw [show (b == d) = decide (b = d) from by by_cases e : b = d <;> simp [e]] at w
      exact w
    · exact absurd h1 (by simp)) (fun j h1 h2 _ => by
    rcases j with _ | _ | j
    · exact I1 a c t1 t3
    · exact I1 b d t2 t4
    · exact absurd h1 (by simp))
  have hb : Ob.lexAt (fun j => if j = 0 then decide (a = c) else decide (b = d)) (fun j => if j = 0 then rr a c else rr b d) z 0 2 = (if a = c then (if b = d then z else rr b d) else rr a c) := by
    simp only [Ob.lexAt, decide_eq_true_eq, if_pos]
    by_cases e : a = c <;> by_cases f : b = d <;> simp [e, f]
  rw [hb] at R
  show wpAny (model X.prog X.w) X.A (compareOp op (.ref p) (.ref q)) (EP X pins σ Q) X.xe s
  rw [hop]
  exact R X.prog X.w X.xe (EP X pins σ Q) ⟨.bl _, H, I, rfl, k⟩
theorem opPrLt {X : Cx} (hu : X.A.units < cLine) : OpR X (compareOp .Lt) (rPr X.K false fun a b => decide (a < b)) :=
  opPr (fun h1 h2 e r => Ob.RcOp.tuples_lt h1 h2 hu e r) (fun a b t u => Ob.RcOp.lt_int a b t u) (fun _ _ => rfl)
theorem opPrLe {X : Cx} (hu : X.A.units < cLine) : OpR X (compareOp .LtE) (rPr X.K true fun a b => decide (a ≤ b)) :=
  opPr (fun h1 h2 e r => Ob.RcOp.tuples_le h1 h2 hu e r) (fun a b t u => Ob.RcOp.le_int a b t u) (fun _ _ => rfl)
theorem opPrGt {X : Cx} (hu : X.A.units < cLine) : OpR X (compareOp .Gt) (rPr X.K false fun a b => decide (b < a)) :=
  opPr (fun h1 h2 e r => Ob.RcOp.tuples_gt h1 h2 hu e r) (fun a b t u => Ob.RcOp.gt_int a b t u) (fun _ _ => rfl)
theorem opPrGe {X : Cx} (hu : X.A.units < cLine) : OpR X (compareOp .GtE) (rPr X.K true fun a b => decide (b ≤ a)) :=
  opPr (fun h1 h2 e r => Ob.RcOp.tuples_ge h1 h2 hu e r) (fun a b t u => Ob.RcOp.ge_int a b t u) (fun _ _ => rfl)
section
variable {K : PySem.W.Frag} {H : Hp} {p q : Addr} {a b c d : Int} {Q : VK}
theorem prLt (e : SqT K H p [.int a, .int b]) (f : SqT K H q [.int c, .int d]) (h : Q (.bl (decide (a < c ∨ a = c ∧ b < d))) H) : rPr K false (fun a b => decide (a < b)) (.ref p) (.ref q) H Q := by
  refine ⟨_, _, a, b, c, d, rfl, rfl, e, f, ?_⟩
  have w : (if a = c then (if b = d then false else decide (b < d)) else decide (a < c)) = decide (a < c ∨ a = c ∧ b < d) := by
    split <;> (try split) <;> (rw [eq_comm]; first | (apply decide_eq_false; omega) | (congr 1; apply propext; omega))
  rw [w]
  exact h
theorem prLe (e : SqT K H p [.int a, .int b]) (f : SqT K H q [.int c, .int d]) (h : Q (.bl (decide (a < c ∨ a = c ∧ b ≤ d))) H) : rPr K true (fun a b => decide (a ≤ b)) (.ref p) (.ref q) H Q := by
  refine ⟨_, _, a, b, c, d, rfl, rfl, e, f, ?_⟩
  have w : (if a = c then (if b = d then true else decide (b ≤ d)) else decide (a ≤ c)) = decide (a < c ∨ a = c ∧ b ≤ d) := by
    split <;> (try split) <;> (rw [eq_comm]; first | (apply decide_eq_true; omega) | (congr 1; apply propext; omega))
  rw [w]
  exact h
theorem prGt (e : SqT K H p [.int a, .int b]) (f : SqT K H q [.int c, .int d]) (h : Q (.bl (decide (c < a ∨ a = c ∧ d < b))) H) : rPr K false (fun a b => decide (b < a)) (.ref p) (.ref q) H Q := by
  refine ⟨_, _, a, b, c, d, rfl, rfl, e, f, ?_⟩
  have w : (if a = c then (if b = d then false else decide (d < b)) else decide (c < a)) = decide (c < a ∨ a = c ∧ d < b) := by
    split <;> (try split) <;> (rw [eq_comm]; first | (apply decide_eq_false; omega) | (congr 1; apply propext; omega))
  rw [w]
  exact h
theorem prGe (e : SqT K H p [.int a, .int b]) (f : SqT K H q [.int c, .int d]) (h : Q (.bl (decide (c < a ∨ a = c ∧ d ≤ b))) H) : rPr K true (fun a b => decide (b ≤ a)) (.ref p) (.ref q) H Q := by
  refine ⟨_, _, a, b, c, d, rfl, rfl, e, f, ?_⟩
  have w : (if a = c then (if b = d then true else decide (d ≤ b)) else decide (c ≤ a)) = decide (c < a ∨ a = c ∧ d ≤ b) := by
    split <;> (try split) <;> (rw [eq_comm]; first | (apply decide_eq_true; omega) | (congr 1; apply propext; omega))
  rw [w]
  exact h
end
/-- t + u, of pairs -/
theorem catP {K : PySem.W.Frag} {H : Hp} {p q : Addr} {a b c d : V} {Q : VK} (e : SqT K H p [a, b]) (f : SqT K H q [c, d]) (h : ∀ r, H r = none → Q (.ref r) (upd H r (.tup [a, b, c, d]))) : rCatT K (.ref p) (.ref q) H Q :=
  ⟨p, q, _, _, rfl, rfl, e, f, by simp, Nat.le_of_lt (small1000 (show 4 ≤ 1000 by decide)), fun z => absurd z (by simp), fun _ r hr => h r hr⟩
theorem it {K : PySem.W.Frag} {tl : TE} {σ : L2.St} {H : Hp} {R : It → Hp → Prop} (h : tl σ H fun x H1 => ∃ a, x = .ref a ∧ (∃ xs, SqT K H1 a xs) ∧ R (Itt K a) H1) : iTup K tl σ H R := h
theorem ckw {r : List V → List V → Hp → VK → Prop} {t tk : TA} {σ : L2.St} {H : Hp} {Q : VK} (h : t σ H fun vs H1 => tk σ H1 fun zs H2 => r vs zs H2 Q) : tCKw r t tk σ H Q := h
theorem sqTS {K : PySem.W.Frag} {H H' : Hp} {a : Addr} {xs : List V} (f : Same H H') (h : SqT K H a xs) : SqT K H' a xs :=
  h.elim (fun r => .inl (r.elim (fun z => .inl (f _ _ z)) fun ⟨o, z⟩ => .inr ⟨o, f _ _ z⟩)) .inr
/-- [e for x in t], t a tuple of ints -/
theorem lcMapT {ns : List Int} {g : Int → Int} {K : PySem.W.Frag} {a : Addr} {i : Nat} {te : TE} {vs : List Nat} {σ : L2.St} {H : Hp} {Q : VK} {xs : List V} (hs : SqT K H a xs) (ex : xs = ns.map V.int) (hn : ns.length ≤ 1000)
    (hw : ∀ x, wipe ((wipe σ vs).set i (some x)) vs = wipe σ vs)
    (elem : ∀ x ∈ ns, ∀ H', Same H H' → ∀ R : VK, (∀ H'', Same H' H'' → R (.int (g x)) H'') → te ((wipe σ vs).set i (some (.int x))) H' R)
    (k : ∀ (p : Addr) (H' : Hp), H p = none → Same H H' → H' p = some (.lst ((ns.map g).map V.int)) → Q (.ref p) H') :
    (∃ xs, SqT K H a xs) ∧ ∀ D, H D = none → ∃ W : Nat → Nat → Hp → Prop, (∃ m, W 0 m (upd H D (.lst []))) ∧ ∀ t m H, W t m H →
      ((Itt K a).stop t H ∧ Q (.ref D) H) ∨ ((Itt K a).go t H ∧ ∃ Nx : Hp → Prop, (∀ H', Nx H' → ∃ m', m' < m ∧ W (t + 1) m' H') ∧ ∀ x H', (Itt K a).yld t H x H' → (gName i) x (wipe σ vs) H' fun σ2 H2 => wipe σ2 vs = wipe σ vs ∧ tYes σ2 H2 fun b H3 =>
        if b = true then te σ2 H3 fun y H4 => ∃ acc, H4 D = some (.lst acc) ∧ acc.length < sizeLine ∧ Nx (upd H4 D (.lst (acc ++ [y]))) else Nx H3) := by
  subst ex
  refine ⟨⟨_, hs⟩, fun D hD => lc_tup (xs := ns.map V.int) (fun t H' => Same H H' ∧ H' D = some (.lst (((ns.take t).map g).map V.int))) ⟨same_upd hD (Same.refl _), upd_same⟩ (fun t H' _ p => sqTS p.1 hs) (fun t x H' hx p => ?_) (fun H' p => ?_)⟩
  · obtain ⟨S, hl⟩ := p
    rw [List.getElem?_map] at hx
    cases e : ns[t]? with
    | none => rw [e] at hx; cases hx
    | some y =>
      rw [e] at hx
      cases hx
      have hy : y ∈ ns := List.mem_of_getElem? e
      have ht : t < ns.length := (List.getElem?_eq_some_iff.mp e).1
      refine ⟨hw _, iteT (B := Same H H' ∧ H' D = some (.lst (((ns.take (t + 1)).map g).map V.int))) rfl (elem y hy H' S _ fun H'' S' => ⟨_, S' _ _ hl, ?_, ?_, ?_⟩)⟩
      · rw [List.length_map, List.length_map, List.length_take]
        exact small1000 (by omega)
      · exact same_upd hD (S.trans S')
      · rw [upd_same, List.take_add_one, e]
        simp
  · obtain ⟨S, hl⟩ := p
    rw [List.length_map, List.take_length] at hl
    exact k D H' hD S hl
/-- [e for x in t + u], t and u pairs of ints -/
theorem lcCatI {a b c d : Int} {g : Int → Int} {K : PySem.W.Frag} {p q : Addr} {i j1 j2 : Nat} {te : TE} {vs : List Nat} {σ : L2.St} {H : Hp} {Q : VK} (e1 : σ[j1]? = some (some (.ref p))) (e2 : σ[j2]? = some (some (.ref q))) (hp : SqT K H p [.int a, .int b]) (hq : SqT K H q [.int c, .int d])
    (hw : ∀ x, wipe ((wipe σ vs).set i (some x)) vs = wipe σ vs)
    (elem : ∀ x ∈ [a, b, c, d], ∀ H', Same H H' → ∀ R : VK, (∀ H'', Same H' H'' → R (.int (g x)) H'') → te ((wipe σ vs).set i (some (.int x))) H' R)
    (k : ∀ (r : Addr) (H' : Hp), Same H H' → H' r = some (.lst (([a, b, c, d].map g).map V.int)) → Q (.ref r) H') : tLc (iTup K (tOp (rCatT K) (tVar j1) (tVar j2))) (gName i) tYes te vs σ H Q :=
  lc (it ⟨_, e1, _, e2, catP hp hq fun r hr => ⟨r, rfl, lcMapT (SqT.of (L2.upd_same)) rfl (by simp) hw (fun x hx H' S R kk => elem x hx H' (Same.trans (same_upd hr (Same.refl _)) S) R kk) fun r2 H' h2 S hl => k r2 H' (Same.trans (same_upd hr (Same.refl _)) S) hl⟩⟩)
theorem two {u v : V} {i : Nat} {x : V} (h : [u, v][i]? = some x) : x = u ∨ x = v := by
  rcases i with _ | _ | i
  · exact .inl (Option.some.inj h).symm
  · exact .inr (Option.some.inj h).symm
  · simp at h
theorem dp_b4 {K : PySem.W.Frag} {H : Hp} {p : Addr} {x y z w : Bool} (h : SqL K H p [.bl x, .bl y, .bl z, .bl w]) : Dp K H (.ref p) (.list [.bool x, .bool y, .bool z, .bool w]) := .lst h (.cons (.bl _) (.cons (.bl _) (.cons (.bl _) (.cons (.bl _) .nil))))
theorem shaped_b4 (x y z w : Bool) : SeqAt.shaped (.list [.bool x, .bool y, .bool z, .bool w]) = true := by
  simp only [SeqAt.shaped, PyData.canLay0, PyData.canLayAll0, PyData.depth, PyData.depthAll]
  rfl
theorem lessV (a b c d : Int) : (decide (a < c) || (decide (V.int a = V.int c) && decide (b < d))) = decide (a < c ∨ a = c ∧ b < d) := by
  rw [Bool.eq_iff_iff]
  simp
theorem told4 (a b c d : Int) : (!PyData.eqv (.list [.bool (decide (a < c ∨ a = c ∧ b < d)), .bool (decide (a < c ∨ a = c ∧ b ≤ d)), .bool (decide (c < a ∨ a = c ∧ d < b)), .bool (decide (c < a ∨ a = c ∧ d ≤ b))])
    (.list [.bool (decide (a < c ∨ a = c ∧ b < d)), .bool (decide (a < c ∨ a = c ∧ b < d) || PyData.eqv (.tuple [.int a, .int b]) (.tuple [.int c, .int d])), .bool (!decide (a < c ∨ a = c ∧ b < d) && !PyData.eqv (.tuple [.int a, .int b]) (.tuple [.int c, .int d])), .bool (!decide (a < c ∨ a = c ∧ b < d))])) = false := by
  have e : PyData.eqv (.tuple [.int a, .int b]) (.tuple [.int c, .int d]) = decide (a = c ∧ b = d) := by
    rw [eqv_pair, Bool.eq_iff_iff]
    simp
  have e1 : decide (a < c ∨ a = c ∧ b ≤ d) = (decide (a < c ∨ a = c ∧ b < d) || decide (a = c ∧ b = d)) := by
    rw [Bool.eq_iff_iff]
    simp only [Bool.or_eq_true, decide_eq_true_eq]
    omega
  have e2 : decide (c < a ∨ a = c ∧ d < b) = (!decide (a < c ∨ a = c ∧ b < d) && !decide (a = c ∧ b = d)) := by
    rw [Bool.eq_iff_iff]
    simp only [Bool.and_eq_true, Bool.not_eq_true', decide_eq_true_eq, decide_eq_false_iff_not]
    omega
  have e3 : decide (c < a ∨ a = c ∧ d ≤ b) = (!decide (a < c ∨ a = c ∧ b < d)) := by
    rw [Bool.eq_iff_iff]
    simp only [Bool.not_eq_true', decide_eq_true_eq, decide_eq_false_iff_not]
    omega
  rw [e, e1, e2, e3]
  simp [PyData.eqv, PyData.eqvAll]
theorem absB {x m : Int} (h : (if x < 0 then -x else x) ≤ m) : -m ≤ x ∧ x ≤ m := by
  split at h <;> omega
theorem ltAt {a b c d n m : Int} (hn : n = 1000000000 ∨ n = 1000000000000000000000000000000) (hm : m ≤ 1000000) (ha : -m ≤ a ∧ a ≤ m) (hb : -m ≤ b ∧ b ≤ m) (hc : -m ≤ c ∧ c ≤ m) (hd : -m ≤ d ∧ d ≤ m) : decide (a * n + b < c * n + d) = decide (a < c ∨ a = c ∧ b < d) := by
  rw [Bool.eq_iff_iff]
  simp only [decide_eq_true_eq]
  rcases hn with rfl | rfl <;> omega
theorem eqAt {a b c d n m : Int} (hn : n = 1000000000 ∨ n = 1000000000000000000000000000000) (hm : m ≤ 1000000) (ha : -m ≤ a ∧ a ≤ m) (hb : -m ≤ b ∧ b ≤ m) (hc : -m ≤ c ∧ c ≤ m) (hd : -m ≤ d ∧ d ≤ m) : decide (V.int (a * n + b) = V.int (c * n + d)) = (decide (V.int a = V.int c) && decide (V.int b = V.int d)) := by
  rw [Bool.eq_iff_iff]
  simp only [Bool.and_eq_true, decide_eq_true_eq, V.int.injEq]
  rcases hn with rfl | rfl <;> omega
end Rd
/-! ## max(xs, key=int) of a list of ints -/
namespace MxK
open PySem PySem.Spec PyProof.Rows L2
section
variable {prog : Program} {w : World} {A : Around} {E : Value → Shared → Prop} {s : Shared} {l I S : Addr} {vs : List Value} {ns : List Int} {Z : Result → Shared → Prop}
/-- what the walk keeps: the older objects, the best with its key in S, the walker's place in I -/
structure St (s : Shared) (l I S : Addr) (h : Heap) (j : Nat) (M : Int) (tv tb : Tok) : Prop where
  old : ∀ b o, s.heap.get? b = some o → h.get? b = some o
  sto : ∃ c, h.get? S = some (seqObj "list" #[.int M tv, .int M tb] c)
  itr : h.IsListIter I l j
theorem St.list {h : Heap} {j : Nat} {M : Int} {tv tb : Tok} (K : St s l I S h j M tv tb) (hl : s.heap.IsList l vs.toArray) : h.IsList l vs.toArray := by
  obtain ⟨o, e, r⟩ := hl
  exact ⟨o, K.old _ _ e, r⟩
theorem getD_of {ns : List Int} {i : Nat} {n : Int} (h : ns[i]? = some n) : ns.getD i 0 = n := by simp [h]
theorem item {i : Nat} {v : Value} (hi : IntsAre vs ns) (h : vs[i]? = some v) : ∃ t, v = .int (ns.getD i 0) t ∧ ns.getD i 0 ∈ ns := by
  have hlen := hi.length
  have h1 : i < vs.length := (List.getElem?_eq_some_iff.mp h).1
  have h2 : ns[i]? = some (ns[i]'(by omega)) := List.getElem?_eq_getElem (by omega)
  obtain ⟨t, ht⟩ := hi.get i _ h2
  rw [h] at ht
  cases ht
  exact ⟨t, by rw [getD_of h2], by rw [getD_of h2]; exact List.getElem_mem _⟩
theorem loop (hh : A.handled = none) (hl : s.heap.IsList l vs.toArray) (hi : IntsAre vs ns) (hlI : l ≠ I) (hSI : S ≠ I) (nS : s.heap.get? S = none) (nI : s.heap.get? I = none)
    (done : ∀ h' tk' M t, (∀ b o, s.heap.get? b = some o → h'.get? b = some o) → M ∈ ns → (∀ a ∈ ns, a ≤ M) → Z (.ok (.ret (.int M t))) { s with heap := h', toks := tk' }) :
    ∀ (r j : Nat) (h : Heap) (tk : Nat) (M : Int) (tv tb : Tok), vs.length - j = r → j ≤ vs.length → St s l I S h j M tv tb → M ∈ ns → (∀ i, i < j → ns.getD i 0 ≤ M) →
      codeAny (model prog w) A (.builtin "max.loop" ⟨[.ref I, .type "int", .ref S], []⟩) Z { s with heap := h, toks := tk } := by
  have nm : (toString "max" ++ toString ".loop" : String) = "max.loop" := by decide
  have Wk := Walks.list (prog := prog) (w := w) (A := A.in1) hh I l hlI vs.toArray
  have zs : vs.toArray.size = vs.length := List.size_toArray ..
  have hlen := hi.length
  intro r
  induction r with
  | zero =>
    intro j h tk M tv tb hr hj K hM hb
    have ej : j = vs.length := by omega
    obtain ⟨c, gS⟩ := K.sto
    refine codeAny_builtin PySem.F.entry_max_loop (?_ : _)
    rw [Around.under_plainId (PySem.F.plain_max_loop : _) _]
    show wpAny _ A.in1 (seqItems? (.ref S) >>= fun _ => _) _ _ _
    refine wpAny_bind (wpAny_seqItems gS rfl (?_ : _))
    show wpAny _ A.in1 (tryCatch (pyNext (.ref I)) _ >>= fun _ => _) _ _ _
    refine wpAny_bind (wpAny_tryCatch (Wk.done _ _ _ ⟨by rw [zs, ← ej]; exact K.itr, K.list hl⟩ fun h' tk' kept => ?_))
    have gS' := kept S _ (by simpa using hSI) gS
    have sb := Heap.SameBut.update h' S (Obj.mapSeq fun _ => (#[] : Array Value))
    show wpAny _ A.in1 (updateSeq S (fun _ => #[]) >>= fun _ => _) _ _ _
    refine wpAny_bind (wpAny_updateSeq gS' rfl (wpAny_bind (wpAny_letGo (wpAny_pure (done _ _ M tv (fun b o q => ?_) hM (fun a ha => ?_))))))
    · have nb : b ≠ S := fun z => by rw [z, nS] at q; cases q
      have ni : b ≠ I := fun z => by rw [z, nI] at q; cases q
      rw [sb.2 b nb]
      exact kept b o (by simpa using ni) (K.old b o q)
    · obtain ⟨i, hi1, rfl⟩ := List.getElem_of_mem ha
      have := hb i (by omega)
      rw [getD_of (List.getElem?_eq_getElem hi1)] at this
      exact this
  | succ r ih =>
    intro j h tk M tv tb hr hj K hM hb
    have lt : j < vs.length := by omega
    obtain ⟨c, gS⟩ := K.sto
    refine codeAny_builtin PySem.F.entry_max_loop (?_ : _)
    rw [Around.under_plainId (PySem.F.plain_max_loop : _) _]
    show wpAny _ A.in1 (seqItems? (.ref S) >>= fun _ => _) _ _ _
    refine wpAny_bind (wpAny_seqItems gS rfl (?_ : _))
    show wpAny _ A.in1 (tryCatch (pyNext (.ref I)) _ >>= fun _ => _) _ _ _
    refine wpAny_bind (wpAny_tryCatch (Wk.item j _ _ _ (by rw [zs]; exact lt) ⟨K.itr, K.list hl⟩ fun v h' tk' hP st kept => ?_))
    obtain ⟨t, rfl, hn⟩ := item hi (show vs[j]? = some v by simpa using hP)
    have gS' := kept S _ (by simpa using hSI) gS
    have K' : ∀ b o, s.heap.get? b = some o → h'.get? b = some o := fun b o q => by
      have ni : b ≠ I := fun z => by rw [z, nI] at q; cases q
      exact kept b o (by simpa using ni) (K.old b o q)
    have bN : ∀ x, M ≤ x → ns.getD j 0 ≤ x → ∀ i, i < j + 1 → ns.getD i 0 ≤ x := fun x h1 h2 i hi1 => by
      by_cases e : i = j
      · rw [e]; exact h2
      · exact Int.le_trans (hb i (by omega)) h1
    generalize hx : ns.getD j 0 = x at hn bN ⊢
    show wpAny _ A.in1 (tryCatch (holding [.int x t] (call (.type "int") [.int x t])) _ >>= fun _ => _) _ _ _
    refine wpAny_bind (wpAny_tryCatch (wpAny_holding (call_int_int ?_)))
    show wpAny _ A.in1 (tryCatch (holding [.int x t, .int x t] (richCompare .Gt (.int x t) (.int M tb) >>= fun _ => _)) _ >>= fun _ => _) _ _ _
    refine wpAny_bind (wpAny_tryCatch (wpAny_holding (wpAny_bind (PyProof.Rows.gt_int ?_))))
    refine wpAny_bind (wpAny_holding (wpAny_truthy_bool ?_))
    refine wpAny_bind (wpAny_letGo (wpAny_pure (?_ : _)))
    by_cases q : M < x
    · have sb := Heap.SameBut.update h' S (Obj.mapSeq fun _ => #[.int x t, .int x t])
      have gN : ∃ c2, (h'.update S (Obj.mapSeq fun _ => #[.int x t, .int x t])).get? S = some (seqObj "list" #[.int x t, .int x t] c2) := ⟨_, get?_update_seq gS' fun _ => #[.int x t, .int x t]⟩
      obtain ⟨oI, gI, oc, od⟩ := id st.1
      simp only [q, decide_true, if_true]
      refine wpAny_bind (wpAny_updateSeq gS' rfl (wpAny_bind (wpAny_letGo ?_)))
      rw [nm]
      refine wpAny_pure ⟨plainId_quiet (PySem.F.plain_max_loop : _) _, ih (j + 1) _ _ x t t (by omega) lt ⟨fun b o e => ?_, gN, ⟨oI, (sb.2 I hSI.symm).trans gI, oc, od⟩⟩ hn (bN x (by omega) (Int.le_refl _))⟩
      have nb : b ≠ S := fun z => by rw [z, nS] at e; cases e
      rw [sb.2 b nb]
      exact K' b o e
    · simp only [q, decide_false, Bool.false_eq_true, if_false]
      refine wpAny_bind (wpAny_letGo (?_ : _))
      rw [nm]
      exact wpAny_pure ⟨plainId_quiet (PySem.F.plain_max_loop : _) _, ih (j + 1) _ _ M tv tb (by omega) lt ⟨K', ⟨c, gS'⟩, st.1⟩ hM (bN M (Int.le_refl _) (by omega))⟩
theorem max_key_int {Q : Value → Shared → Prop} (hh : A.handled = none) (hl : s.heap.IsList l vs.toArray) (hi : IntsAre vs ns) (hne : 0 < ns.length)
    (k : ∀ h' tk' M t, (∀ b o, s.heap.get? b = some o → h'.get? b = some o) → M ∈ ns → (∀ a ∈ ns, a ≤ M) → Q (.int M t) { s with heap := h', toks := tk' }) :
    wpAny (model prog w) A (call (.builtin "max") [.ref l] [(Str.ofString "key", .type "int")]) Q E s := by
  have nm : (toString "max" ++ toString ".loop" : String) = "max.loop" := by decide
  obtain ⟨ol, el, _⟩ := id hl
  have hlen := hi.length
  have ll : l < s.heap.objs.size := Heap.lt_size el
  refine kmb_tree PySem.F.kind_max PySem.F.plain_max PySem.F.entry_max (kmb_max_key _ _) (?_ : _)
  show wpAny _ A.in1 (Builtin.Builtins.bindParams "max" ["key", "default"] 0 ⟨[], [(Str.ofString "key", .type "int")]⟩ >>= fun _ => _) _ _ s
  refine wpAny_bind (wpAny_of_eq (show Builtin.Builtins.bindParams "max" ["key", "default"] 0 ⟨[], [(Str.ofString "key", .type "int")]⟩ = pure [some (.type "int"), none] from rfl) (wpAny_bind (wpAny_pure ?_)))
  refine wpAny_bind (wpAny_pyIter_list hl (wpAny_bind (wpAny_newList ?_ (Nat.zero_le _))))
  rw [nm]
  generalize hG : s.heap.push { cls := .type "list_iterator", data := .fields #[.ref l, .int 0 0] } = G
  have gz : G.objs.size = s.heap.objs.size + 1 := by rw [← hG]; exact size_push' ..
  have gI0 : G.get? s.heap.objs.size = some { cls := .type "list_iterator", data := .fields #[.ref l, .int 0 0] } := by rw [← hG]; exact Heap.get?_push_size _ rfl
  have gI : (G.push (seqObj "list" #[] 0)).get? s.heap.objs.size = some { cls := .type "list_iterator", data := .fields #[.ref l, .int 0 0] } := Heap.get?_push_of_some _ gI0
  have gS : (G.push (seqObj "list" #[] 0)).get? G.objs.size = some (seqObj "list" #[] 0) := Heap.get?_push_size _ rfl
  have old : ∀ b o, s.heap.get? b = some o → (G.push (seqObj "list" #[] 0)).get? b = some o := fun b o e => by
    rw [← hG]
    exact Heap.get?_push_of_some _ (Heap.get?_push_of_some _ e)
  have hlI : l ≠ s.heap.objs.size := Nat.ne_of_lt ll
  have hSI : G.objs.size ≠ s.heap.objs.size := by omega
  have nI : s.heap.get? s.heap.objs.size = none := Heap.get?_none_of_le (Nat.le_refl _)
  have nS : s.heap.get? G.objs.size = none := Heap.get?_none_of_le (by omega)
  have Wk := Walks.list (prog := prog) (w := w) (A := A.in1) hh s.heap.objs.size l hlI vs.toArray
  have zs : vs.toArray.size = vs.length := List.size_toArray ..
  refine wpAny_pure ⟨plainId_quiet (PySem.F.plain_max_loop : _) _, codeAny_builtin PySem.F.entry_max_loop (?_ : _)⟩
  rw [Around.under_plainId (PySem.F.plain_max_loop : _) _]
  show wpAny _ A.in1 (seqItems? (.ref _) >>= fun _ => _) _ _ _
  refine wpAny_bind (wpAny_seqItems gS rfl (?_ : _))
  show wpAny _ A.in1 (tryCatch (pyNext (.ref s.heap.objs.size)) _ >>= fun _ => _) _ _ _
  have ol2 : (G.push (seqObj "list" #[] 0)).IsList l vs.toArray := by
    obtain ⟨o, e, z⟩ := id hl
    exact ⟨o, old _ _ e, z⟩
  refine wpAny_bind (wpAny_tryCatch (Wk.item 0 _ _ _ (by rw [zs]; omega) ⟨⟨_, gI, rfl, rfl⟩, ol2⟩ fun v h' tk' hP st kept => ?_))
  obtain ⟨t, rfl, hn⟩ := item hi (show vs[0]? = some v by simpa using hP)
  have gS' := kept _ _ (by simpa using hSI) gS
  generalize hx : ns.getD 0 0 = x at hn ⊢
  show wpAny _ A.in1 (tryCatch (holding [.int x t] (call (.type "int") [.int x t])) _ >>= fun _ => _) _ _ _
  refine wpAny_bind (wpAny_tryCatch (wpAny_holding (call_int_int ?_)))
  have sb := Heap.SameBut.update h' G.objs.size (Obj.mapSeq fun _ => #[.int x t, .int x t])
  have gN : ∃ c2, (h'.update G.objs.size (Obj.mapSeq fun _ => #[.int x t, .int x t])).get? G.objs.size = some (seqObj "list" #[.int x t, .int x t] c2) := ⟨_, get?_update_seq gS' fun _ => #[.int x t, .int x t]⟩
  obtain ⟨oI, gI', oc, od⟩ := id st.1
  show wpAny _ A.in1 (updateSeq G.objs.size (fun _ => #[.int x t, .int x t]) >>= fun _ => _) _ _ _
  refine wpAny_bind (wpAny_updateSeq gS' rfl (?_ : _))
  rw [nm]
  refine wpAny_pure ⟨plainId_quiet (PySem.F.plain_max_loop : _) _, loop hh hl hi hlI hSI nS nI (fun h2 tk2 M t2 q hM hb => k h2 tk2 M t2 q hM hb) _ 1 _ _ x t t rfl (by omega) ⟨fun b o e => ?_, gN, ⟨oI, (sb.2 _ hSI.symm).trans gI', oc, od⟩⟩ hn (fun i hi1 => ?_)⟩
  · have nb : b ≠ G.objs.size := fun z => by rw [z, nS] at e; cases e
    have ni : b ≠ s.heap.objs.size := fun z => by rw [z, nI] at e; cases e
    rw [sb.2 b nb]
    exact kept b o (by simpa using ni) (old b o e)
  · have e : i = 0 := by omega
    rw [e, hx]
    exact Int.le_refl _
end
def rMaxK (K : PySem.W.Frag) : List V → List V → Hp → VK → Prop := fun vs zs H Q => ∃ (a : Addr) (ns : List Int), vs = [V.ref a] ∧ zs = [.ty "int"] ∧ SqL K H a (ns.map V.int) ∧ 0 < ns.length ∧ ∀ m, m ∈ ns → (∀ y, y ∈ ns → y ≤ m) → Q (.int m) H
theorem ck_max {X : Cx} (hc : X.calm = true) : CallRK X (.builtin "max") ["key"] (rMaxK X.K) := by
  intro pins s σ H xs zs us ws Q I r r2 h
  obtain ⟨a, ns, rfl, rfl, hs, hne, q⟩ := h
  obtain ⟨its, rv, hl, _⟩ := I.list hs
  obtain ⟨u, rfl, ru⟩ := vals1 r2
  cases ru
  rw [Vals.ref1 r]
  exact max_key_int (I.ok.hd hc) hl.isList rv.ints hne fun h' tk m t' hk h1 h2 => ⟨.int _, H, I.kept hk, ⟨_, rfl⟩, q m h1 h2⟩
end MxK
/-! ## an object of a built-in type without the number's slot, left of an own instance -/
namespace Own
open PySem PySem.Spec PyProof.Rows
section
variable {prog : Program} {w : World} {A : Around} {E : Value → Shared → Prop} {s : Shared} {K : PySem.W.Frag} {x C dx f f0 : Addr} {od : Option Obj} {op : Operator} {T : String}
theorem binR0 {a : Value} {Q : Value → Shared → Prop} (KX : K.In s.heap) (I : PySem.W.InstAt s.heap x (PySem.W.instObj C dx) C od) (hc : PySem.W.selfFirst K C = true) (ta : PySem.W.Looks (model prog w) s.heap (typeOf a) (.type T))
    (h0 : PySem.W.findIn K (.ref C) (PySem.dunder op.info.2) = some (some (.ref f0))) (h1 : PySem.W.findIn K (.ref C) (dunderR op.info.2) = some (some (.ref f))) (hf : PySem.W.isFn K (.ref f) = true)
    (hfill : PySem.W.Looks (model prog w) s.heap (fillsNumberSlot (.type T) op.info.2) false)
    (h : wpAny (model prog w) A (call (.ref f) [.ref x, a]) (PySem.W.CmpBack Q) E s) : wpAny (model prog w) A (binaryOp op a (.ref x)) Q E s := by
  obtain ⟨cd, rest, hcd, hm⟩ := PySem.W.ksp_first hc
  rcases hi : op.info with ⟨sym, nm⟩
  rw [hi] at h0 h1 hfill
  dsimp only at h0 h1 hfill
  have two := PySem.W.ksp_try KX I h1 hf h
  obtain ⟨hh, g, d, tt, os⟩ := s
  have L1 : PySem.W.Looks (model prog w) hh (typeOf (.ref x)) (.ref C) := I.type
  have L3 : PySem.W.Looks (model prog w) hh (fillsNumberSlot (.ref C) nm) true := PySem.W.fills_K KX hcd hm h0
  have nc : (Value.type T == Value.ref C) = false := Bool.eq_false_iff.mpr fun q => nomatch beq_iff_eq.mp q
  simp only [binaryOp, hi]
  refine wpAny_holding (wpAny_bind (?_ : _))
  unfold binaryOp1
  refine wpAny_bind (ta.at (wpAny_bind (L1.at (wpAny_bind (hfill.at ?_)))))
  simp only [nc, Bool.false_eq_true, if_false]
  refine wpAny_bind (L3.at (?_ : _))
  simp only [Bool.false_and, Bool.false_eq_true, if_false, pure_bind, Bool.not_false, Bool.and_self, if_true]
  refine wpAny_bind (wpAny_mono two (fun r s' q => ?_) fun _ _ e => e)
  obtain ⟨v, rfl, q⟩ := q
  exact wpAny_bind (wpAny_rule (wpAny_pure (wpAny_pure q)))
end
end Own
namespace Own
open PySem PySem.Spec PyProof.Rows L2
section
variable {prog : Program} {w : World} {A : Around} {E : Value → Shared → Prop} {s : Shared} {K : PySem.W.Frag} {x C dx f f0 : Addr} {od : Option Obj} {op : Operator} {T : String}
theorem binT0 {b : Value} {Q : Value → Shared → Prop} (KX : K.In s.heap) (I : PySem.W.InstAt s.heap x (PySem.W.instObj C dx) C od) (hc : PySem.W.selfFirst K C = true) (tb : PySem.W.Looks (model prog w) s.heap (typeOf b) (.type T))
    (h0 : PySem.W.findIn K (.ref C) (PySem.dunder op.info.2) = some (some (.ref f))) (hf : PySem.W.isFn K (.ref f) = true) (hfill : PySem.W.Looks (model prog w) s.heap (fillsNumberSlot (.type T) op.info.2) false)
    (h : wpAny (model prog w) A (call (.ref f) [.ref x, b]) (PySem.W.CmpBack Q) E s) : wpAny (model prog w) A (binaryOp op (.ref x) b) Q E s := by
  obtain ⟨cd, rest, hcd, hm⟩ := PySem.W.ksp_first hc
  rcases hi : op.info with ⟨sym, nm⟩
  rw [hi] at h0 hfill
  dsimp only at h0 hfill
  have one := PySem.W.ksp_try KX I h0 hf h
  obtain ⟨hh, g, d, tt, os⟩ := s
  have L1 : PySem.W.Looks (model prog w) hh (typeOf (.ref x)) (.ref C) := I.type
  have L3 : PySem.W.Looks (model prog w) hh (fillsNumberSlot (.ref C) nm) true := PySem.W.fills_K KX hcd hm h0
  have nc : (Value.ref C == Value.type T) = false := Bool.eq_false_iff.mpr fun q => nomatch beq_iff_eq.mp q
  simp only [binaryOp, hi]
  refine wpAny_holding (wpAny_bind (?_ : _))
  unfold binaryOp1
  refine wpAny_bind (L1.at (wpAny_bind (tb.at (wpAny_bind (L3.at (?_ : _))))))
  simp only [nc, Bool.false_eq_true, if_false]
  refine wpAny_bind (hfill.at (?_ : _))
  simp only [Bool.and_false, Bool.false_and, Bool.false_eq_true, if_false, pure_bind, Bool.not_false, Bool.and_self, if_true]
  refine wpAny_bind (wpAny_mono one (fun r s' q => ?_) fun _ _ e => e)
  obtain ⟨v, rfl, q⟩ := q
  exact wpAny_pure (wpAny_pure q)
end
section
variable {X : Cx} {CX : CXT} {k : Nat} {f C : Addr} {fd : FuncData} {ps : List Str} {sp : Sp} {E : XK} {op : Operator} {Ts : List String}
/-- built-in types that have no number's slot -/
structure NoSlot (K : PySem.W.Frag) (op : Operator) (T : String) : Prop where
  l : ∃ fo ro, PySem.W.findIn K (.type T) (PySem.dunder op.info.2) = some fo ∧ PySem.W.findIn K (.type T) (dunderR op.info.2) = some ro ∧ ((fo.isSome && !isSeqSlot fo) || (ro.isSome && !isSeqSlot ro)) = false
theorem NoSlot.fills {K : PySem.W.Frag} {T : String} {M : Model} {h : Heap} (Z : NoSlot K op T) (KX : K.In h) : PySem.W.Looks M h (fillsNumberSlot (.type T) op.info.2) false := by
  obtain ⟨fo, ro, h1, h2, e⟩ := Z.l
  have z := PySem.W.ksp_fillsT (M := M) KX h1 h2
  rw [e] at z
  exact z
/-- any object of such a type left of an own instance: the reflected operator is asked -/
def rOddL (K : PySem.W.Frag) (C : Addr) (Ts : List String) (sp : Sp) (E : XK) : R2 := fun x y H Q => ∃ a dx fs T, y = .ref a ∧ H a = some (.ins C dx fs) ∧ T ∈ Ts ∧ TyX K H x (.type T) ∧ sp [.ref a, x] H Q E
theorem opL0 (F : FnOk X.prog X.w X.K X.mg X.base CX k f fd ps sp) (hr : Room k X.A) (Z : BinR X.K C f op) (N : ∀ T ∈ Ts, NoSlot X.K op T) (hb : Binds X.K fd ps []) (hx : Passes CX X E) : OpR X (binaryOp op) (rOddL X.K C Ts sp E) := by
  rintro pins s σ H x y u v Q I rx ry ⟨a, dx, fs, T, rfl, ha, hT, ty, q⟩
  cases ry
  obtain ⟨od, J⟩ := inst I ha
  obtain ⟨z1, ⟨f0, z2⟩, z3, z4, z5⟩ := Z
  exact binR0 I.kIn J z1 (typed I rx ty) z2 z3 z4 ((N T hT).fills I.kIn) (back (run2 (x := .ref a) F hr hb hx I rfl rx q))
/-- any object of such a type right of an own instance -/
def rOddR (K : PySem.W.Frag) (C : Addr) (Ts : List String) (sp : Sp) (E : XK) : R2 := fun x y H Q => ∃ a dx fs T, x = .ref a ∧ H a = some (.ins C dx fs) ∧ T ∈ Ts ∧ TyX K H y (.type T) ∧ sp [.ref a, y] H Q E
theorem opR0 (F : FnOk X.prog X.w X.K X.mg X.base CX k f fd ps sp) (hr : Room k X.A) (B : Bin X.K C f op) (N : ∀ T ∈ Ts, NoSlot X.K op T) (hb : Binds X.K fd ps []) (hx : Passes CX X E) : OpR X (binaryOp op) (rOddR X.K C Ts sp E) := by
  rintro pins s σ H x y u v Q I rx ry ⟨a, dx, fs, T, rfl, ha, hT, ty, q⟩
  cases rx
  obtain ⟨od, J⟩ := inst I ha
  exact binT0 I.kIn J B.first (typed I ry ty) B.at_ B.fn ((N T hT).fills I.kIn) (back (run2 (x := .ref a) F hr hb hx I rfl ry q))
end
end Own
namespace Own
open PySem PySem.Spec PyProof.Rows
section
variable {prog : Program} {w : World} {A : Around} {E : Value → Shared → Prop} {s : Shared} {K : PySem.W.Frag} {x C dx f f0 : Addr} {od : Option Obj} {op : Operator} {id : String}
theorem declB_add {b : Bool} {Q : Shared → Prop} (h : s.heap.get? x = some (PySem.W.instObj C dx)) (hq : Q s) :
    wpAny (model prog w) A (Builtin.«int.__add__» ⟨[.bool b, .ref x], []⟩) (fun fin s' => ∃ v, fin = .done (.ret v) ∧ v = .notImplemented ∧ Q s') E s := by
  obtain ⟨hp, g, d, tk, os⟩ := s
  wp_walk using wpAny_load h
  exact ⟨_, rfl, rfl, hq⟩
theorem declB_sub {b : Bool} {Q : Shared → Prop} (h : s.heap.get? x = some (PySem.W.instObj C dx)) (hq : Q s) :
    wpAny (model prog w) A (Builtin.«int.__sub__» ⟨[.bool b, .ref x], []⟩) (fun fin s' => ∃ v, fin = .done (.ret v) ∧ v = .notImplemented ∧ Q s') E s := by
  obtain ⟨hp, g, d, tk, os⟩ := s
  wp_walk using wpAny_load h
  exact ⟨_, rfl, rfl, hq⟩
theorem declB_mul {b : Bool} {Q : Shared → Prop} (h : s.heap.get? x = some (PySem.W.instObj C dx)) (hq : Q s) :
    wpAny (model prog w) A (Builtin.«int.__mul__» ⟨[.bool b, .ref x], []⟩) (fun fin s' => ∃ v, fin = .done (.ret v) ∧ v = .notImplemented ∧ Q s') E s := by
  obtain ⟨hp, g, d, tk, os⟩ := s
  wp_walk using wpAny_load h
  exact ⟨_, rfl, rfl, hq⟩
theorem slotB_add : Slot "bool" "__add__" "int.__add__" :=
  .of (T := "bool") (name := "__add__") (owner := "int") (n := "__add__") (by rw [typeLookup_type, builtinLookup_eq_fast]; kernel_rfl) (by decide +kernel) (by decide +kernel) (by decide +kernel) (.inl (by decide +kernel)) (by rw [isSubtype_type]; kernel_rfl)
theorem slotB_sub : Slot "bool" "__sub__" "int.__sub__" :=
  .of (T := "bool") (name := "__sub__") (owner := "int") (n := "__sub__") (by rw [typeLookup_type, builtinLookup_eq_fast]; kernel_rfl) (by decide +kernel) (by decide +kernel) (by decide +kernel) (.inl (by decide +kernel)) (by rw [isSubtype_type]; kernel_rfl)
theorem slotB_mul : Slot "bool" "__mul__" "int.__mul__" :=
  .of (T := "bool") (name := "__mul__") (owner := "int") (n := "__mul__") (by rw [typeLookup_type, builtinLookup_eq_fast]; kernel_rfl) (by decide +kernel) (by decide +kernel) (by decide +kernel) (.inl (by decide +kernel)) (by rw [isSubtype_type]; kernel_rfl)
end
end Own
namespace Own
open PySem PySem.Spec PyProof.Rows
section
variable {prog : Program} {w : World} {A : Around} {E : Value → Shared → Prop} {s : Shared} {K : PySem.W.Frag} {x C dx f f0 : Addr} {od : Option Obj} {op : Operator} {id : String}
/-- a truth declines an operator beside an instance, then the instance's reflected one is asked -/
theorem binRB {p : Bool} {Q : Value → Shared → Prop} (KX : K.In s.heap) (I : PySem.W.InstAt s.heap x (PySem.W.instObj C dx) C od) (hc : PySem.W.selfFirst K C = true)
    (h0 : PySem.W.findIn K (.ref C) (PySem.dunder op.info.2) = some (some (.ref f0))) (h1 : PySem.W.findIn K (.ref C) (dunderR op.info.2) = some (some (.ref f))) (hf : PySem.W.isFn K (.ref f) = true)
    (hsub : PySem.W.subIn K (.ref C) (.type "bool") = some false) (hfill : fillsNumberSlot (.type "bool") op.info.2 = pure true) (slot : Slot "bool" (PySem.dunder op.info.2) id)
    (decl : wpAny (model prog w) A (call (.builtin id) [.bool p, .ref x]) (fun v s' => v = .notImplemented ∧ s'.heap = s.heap ∧ s'.gens = s.gens ∧ s'.drawn = s.drawn ∧ s'.os = s.os ∧ s'.toks = s.toks) E s)
    (h : wpAny (model prog w) A (call (.ref f) [.ref x, .bool p]) (PySem.W.CmpBack Q) E s) : wpAny (model prog w) A (binaryOp op (.bool p) (.ref x)) Q E s := by
  obtain ⟨cd, rest, hcd, hm⟩ := PySem.W.ksp_first hc
  rcases hi : op.info with ⟨sym, nm⟩
  rw [hi] at h0 h1 hfill slot
  dsimp only at h0 h1 hfill slot
  have two := PySem.W.ksp_try KX I h1 hf h
  obtain ⟨hh, g, d, tt, os⟩ := s
  have L1 : PySem.W.Looks (model prog w) hh (typeOf (.ref x)) (.ref C) := I.type
  have L3 : PySem.W.Looks (model prog w) hh (fillsNumberSlot (.ref C) nm) true := PySem.W.fills_K KX hcd hm h0
  have L5 : PySem.W.Looks (model prog w) hh (isSubtype (.ref C) (.type "bool")) false := PySem.W.looks_subIn KX hsub
  have hne : (Value.type "bool" == Value.ref C) = false := Bool.eq_false_iff.mpr fun q => by cases beq_iff_eq.mp q
  have hpy : numberSlotInPython (.type "bool") nm = pure false := rfl
  have one : wpAny (model prog w) A (tryMethod (.bool p) (PySem.dunder nm) (.ref x)) (fun r s' => r = none ∧ s'.heap = hh ∧ s'.gens = g ∧ s'.drawn = d ∧ s'.os = os ∧ s'.toks = tt) E ⟨hh, g, d, tt, os⟩ :=
    wpAny_tryMethod_declines (T := "bool") (typeIs_bool' _ p) slot (wpAny_mono decl (fun v s' q => ⟨q.1, rfl, q.2⟩) fun _ _ e => e)
  simp only [binaryOp, hi]
  refine wpAny_holding (wpAny_bind ?_)
  unfold binaryOp1
  refine wpAny_bind (wpAny_typeOf (typeIs_bool' _ p) (wpAny_bind (L1.at (wpAny_bind (wpAny_of_eq hfill ?_)))))
  simp only [hne, Bool.false_eq_true, if_false]
  refine wpAny_bind (L3.at ?_)
  simp only [Bool.and_self, if_true]
  refine wpAny_bind (L5.at ?_)
  simp only [Bool.false_eq_true, if_false, pure_bind, Bool.not_false, Bool.and_self, if_true, hpy]
  refine wpAny_bind (wpAny_mono one (fun r s' q => ?_) fun _ _ e => e)
  obtain ⟨h1, g1, d1, t1, o1⟩ := s'
  obtain ⟨rfl, q1, q2, q3, q4, q5⟩ := q
  dsimp only at q1 q2 q3 q4 q5
  subst q1 q2 q3 q4 q5
  dsimp only
  refine wpAny_bind (wpAny_mono two (fun r s' q => ?_) fun _ _ e => e)
  obtain ⟨v, rfl, q⟩ := q
  exact wpAny_bind (wpAny_rule (wpAny_pure (wpAny_pure q)))
end
end Own
namespace Own
open PySem PySem.Spec PyProof.Rows L2
section
variable {X : Cx} {CX : CXT} {k : Nat} {f C : Addr} {fd : FuncData} {ps : List Str} {sp : Sp} {E : XK} {op : Operator}
def rRightB (C : Addr) (sp : Sp) (E : XK) : R2 := fun x y H Q => ∃ i a dx fs, x = .bl i ∧ y = .ref a ∧ H a = some (.ins C dx fs) ∧ sp [.ref a, .bl i] H Q E
theorem opRB_of {id : String} {B : Builtin} (hfill : fillsNumberSlot (.type "bool") op.info.2 = pure true) (slot : Slot "bool" (PySem.dunder op.info.2) id) (entry : entryFor table id = some B) (args : ∀ a b : Value, argsOk id ⟨[a, b], []⟩)
    (decl : ∀ {prog : Program} {w : World} {A : Around} {E : Value → Shared → Prop} {s : Shared} {x C dx : Addr} {p : Bool} {Q : Shared → Prop}, s.heap.get? x = some (PySem.W.instObj C dx) → Q s →
      wpAny (model prog w) A (B ⟨[.bool p, .ref x], []⟩) (fun fin s' => ∃ v, fin = .done (.ret v) ∧ v = .notImplemented ∧ Q s') E s)
    (F : FnOk X.prog X.w X.K X.mg X.base CX k f fd ps sp) (hr : Room k X.A) (Z : BinR X.K C f op) (zb : PySem.W.subIn X.K (.ref C) (.type "bool") = some false) (hb : Binds X.K fd ps []) (hx : Passes CX X E) : OpR X (binaryOp op) (rRightB C sp E) := by
  rintro pins s σ H x y u v Q I rx ry ⟨i, a, dx, fs, rfl, rfl, ha, q⟩
  cases (show u = Value.bool i from rx)
  cases ry
  obtain ⟨od, J⟩ := inst I ha
  obtain ⟨z1, ⟨f0, z2⟩, z3, z4, z5⟩ := Z
  exact binRB I.kIn J z1 z2 z3 z4 zb hfill slot (wpAny_call_entry slot (typeIs_bool' s i) entry (wpAny_mono (decl (Q := fun s' => s'.heap = s.heap ∧ s'.gens = s.gens ∧ s'.drawn = s.drawn ∧ s'.os = s.os ∧ s'.toks = s.toks) J.at_ ⟨rfl, rfl, rfl, rfl, rfl⟩) (fun fin s' ⟨v, e, q⟩ => ⟨v, e, q⟩) fun _ _ e => e) (args _ _))
    (back (run2 (x := .ref a) (y := .bl i) F hr hb hx I rfl rfl q))
theorem opRBadd (F : FnOk X.prog X.w X.K X.mg X.base CX k f fd ps sp) (hr : Room k X.A) (Z : BinR X.K C f .Add) (zb : PySem.W.subIn X.K (.ref C) (.type "bool") = some false) (hb : Binds X.K fd ps []) (hx : Passes CX X E) : OpR X (binaryOp .Add) (rRightB C sp E) :=
  opRB_of PySem.F.fills_bool_add slotB_add PySem.F.entry_int_add PySem.F.args_int_add_2 declB_add F hr Z zb hb hx
theorem opRBsub (F : FnOk X.prog X.w X.K X.mg X.base CX k f fd ps sp) (hr : Room k X.A) (Z : BinR X.K C f .Sub) (zb : PySem.W.subIn X.K (.ref C) (.type "bool") = some false) (hb : Binds X.K fd ps []) (hx : Passes CX X E) : OpR X (binaryOp .Sub) (rRightB C sp E) :=
  opRB_of PySem.F.fills_bool_sub slotB_sub PySem.F.entry_int_sub PySem.F.args_int_sub_2 declB_sub F hr Z zb hb hx
theorem opRBmul (F : FnOk X.prog X.w X.K X.mg X.base CX k f fd ps sp) (hr : Room k X.A) (Z : BinR X.K C f .Mult) (zb : PySem.W.subIn X.K (.ref C) (.type "bool") = some false) (hb : Binds X.K fd ps []) (hx : Passes CX X E) : OpR X (binaryOp .Mult) (rRightB C sp E) :=
  opRB_of PySem.F.fills_bool_mul slotB_mul PySem.F.entry_int_mul PySem.F.args_int_mul_2 declB_mul F hr Z zb hb hx
end
end Own
/-! ## [x for x, b in zip(xs, bs) if b], bs a list of truths -/
namespace Rd
open PySem PySem.Spec PyProof.Rows L2
theorem wipe2 {σ : L2.St} {i j : Nat} {a b : Option V} (h : i ≠ j) : wipe (((wipe σ [i, j]).set i a).set j b) [i, j] = wipe σ [i, j] := by
  show (((((σ.set j none).set i none).set i a).set j b).set j none).set i none = (σ.set j none).set i none
  rw [List.set_set, List.set_set, List.set_comm _ _ h, List.set_set, List.set_set]
theorem lcZip {names : List V} {bs : List Bool} {K : PySem.W.Frag} {a b : Addr} {i1 i2 j1 j2 : Nat} {σ : L2.St} {H : Hp} {Q : VK} (hl : names.length = bs.length) (hn : names.length ≤ 1000) (e1 : σ[j1]? = some (some (.ref a))) (e2 : σ[j2]? = some (some (.ref b)))
    (h1 : SqL K H a names) {ws : List V} (h2' : SqL K H b ws) (ew : ws = bs.map V.bl)
    (hij : i1 ≠ i2) (li : i1 < σ.length) (lj : i2 < σ.length)
    (k : ∀ (p : Addr) (H' : Hp), H p = none → Same H H' → H' p = some (.lst (((names.zip bs).filter (·.2)).map (·.1))) → Q (.ref p) H') :
    tLc (iZip K (tCons (tVar j1) (tCons (tVar j2) tNil))) (gTup K 2 (gCons (gName i1) (gCons (gName i2) gNil))) (tB (tVar i2)) (tVar i1) [i1, i2] σ H Q := by
  subst ew
  have h2 := h2'
  have hw : ∀ x y, wipe (((wipe σ [i1, i2]).set i1 (some x)).set i2 (some y)) [i1, i2] = wipe σ [i1, i2] := fun x y => wipe2 hij
  have g1 : ∀ x y, (((wipe σ [i1, i2]).set i1 (some x)).set i2 (some y))[i1]? = some (some x) := fun x y => by
    rw [List.getElem?_set_ne (Ne.symm hij), List.getElem?_set_self (by rw [wipe_length]; exact li)]
  have g2 : ∀ x y, (((wipe σ [i1, i2]).set i1 (some x)).set i2 (some y))[i2]? = some (some y) := fun x y => by
    rw [List.getElem?_set_self (by rw [List.length_set, wipe_length]; exact lj)]
  refine lc ⟨_, e1, _, e2, a, b, _, _, rfl, h1, h2, fun D hD => lc_it (walk_zip (n := names.length) (by rw [List.length_map, ← hl, Nat.min_self])) (fun t H' => Same H H' ∧ H' D = some (.lst ((((names.zip bs).take t).filter (·.2)).map (·.1)))) ⟨same_upd hD (Same.refl _), upd_same⟩
    (fun t H' _ p => ⟨p.1.seq h1, p.1.seq h2⟩) (fun t v H0 H' ht p y => ?_) (fun H' p => ?_)⟩
  · obtain ⟨S, hd⟩ := p
    obtain ⟨T, x, y, rfl, hT, rfl, hx, hy⟩ := y
    dsimp only at hx hy
    have htb : t < bs.length := by omega
    have ey : y = .bl bs[t] := by
      rw [List.getElem?_map, List.getElem?_eq_getElem htb] at hy
      exact (Option.some.inj hy).symm
    subst ey
    have ex : names[t] = x := by
      rw [List.getElem?_eq_getElem ht] at hx
      exact Option.some.inj hx
    have nd : D ≠ T := ne_of_none hd hT
    have S' : Same H (upd H0 T (.tup [x, .bl bs[t]])) := same_upd (Same.free S hT) S
    have hd' : upd H0 T (.tup [x, .bl bs[t]]) D = some (.lst ((((names.zip bs).take t).filter (·.2)).map (·.1))) := by rw [upd_ne nd]; exact hd
    have tk : (names.zip bs).take (t + 1) = (names.zip bs).take t ++ [(x, bs[t])] := by
      rw [List.take_add_one, List.getElem?_eq_getElem (by rw [List.length_zip]; omega), List.getElem_zip, ex]
      rfl
    refine gtup (SqT.of upd_same) rfl (gcons (name (gcons (name (gnil ⟨hw _ _, tb (var (g2 _ _) (bl ?_))⟩)))))
    cases hb : bs[t] with
    | true =>
      rw [hb] at hd' S' tk
      refine iteT rfl (var (g1 _ _) ⟨_, hd', ?_, same_upd hD S', ?_⟩)
      · rw [List.length_map]
        refine small1000 (Nat.le_trans (List.length_filter_le _ _) ?_)
        rw [List.length_take, List.length_zip]
        omega
      · rw [upd_same, tk, List.filter_append, List.map_append]
        rfl
    | false =>
      rw [hb] at hd' S' tk
      refine iteF rfl ⟨S', ?_⟩
      rw [hd', tk, List.filter_append, List.map_append]
      simp
  · obtain ⟨S, hd⟩ := p
    rw [List.take_of_length_le (by rw [List.length_zip]; omega)] at hd
    exact k D H' hD S hd
end Rd
/-! ## isinstance of a caught error whatever its class; a call of a def that a name holds, whatever it is -/
namespace Ex2
open PySem PySem.Spec PyProof.Rows L2
def rIsE2 (K : PySem.W.Frag) (cls : Value) (d : Option Addr) (a : Addr) : List V → Hp → VK → Prop := fun xs H Q => ∃ D, cls = .ref D ∧ d = none ∧ ExcC K D ∧ rIsE K D a xs H Q
theorem call_isE2 {X : Cx} {K : PySem.W.Frag} (eK : X.K = K) {a : Addr} {cls : Value} {d : Option Addr} {oe : Obj} {pn : List (Addr × Obj)} (hz : Zc cls d oe) (hf : ∃ vs, oe.data = .fields vs) : CallR (X.suite a ((a, oe) :: pn)) (.builtin "isinstance") (rIsE2 K cls d a) := by
  subst eK
  rintro pins s σ H xs us Q I r ⟨D, rfl, rfl, C, q⟩
  exact call_isE C hz hf pins s σ H xs us Q I r q
/-- a def at f keeps sp, and may let errors out as sp says -/
structure HeldX (P : Program) (w : World) (K : PySem.W.Frag) (mg : Str → Option Value) (base : Heap) (k : Nat) (f : Addr) (sp : Sp) : Prop where
  ex : ∃ (j : Nat) (fd : FuncData) (ps : List Str), j ≤ k ∧ FnOk P w K mg base (L2.CX P w) j f fd ps sp ∧ PySem.W.keepIn K (.ref f) = true ∧ Binds K fd ps []
def tCallX (P : Program) (w : World) (K : PySem.W.Frag) (mg : Str → Option Value) (base : Heap) (k i : Nat) (E : L2.St → XK) (t : TA) : TE := fun σ H Q => ∃ f sp, HeldX P w K mg base k f sp ∧ σ[i]? = some (some (.ref f)) ∧ t σ H fun vs H1 => sp vs H1 Q (E σ)
section
variable {X : Cx} {k i : Nat} {E : L2.St → XK} {x : Str} {p pos : Pos} {e : Expr} {es : List Expr} {t : TA}
theorem pe_callX {P : Program} {w : World} {K : PySem.W.Frag} {mg : Str → Option Value} {base : Heap} (e1 : X.prog = P) (e2 : X.w = w) (e3 : X.K = K) (e4 : X.mg = mg) (e5 : X.base = base) (hr : Room k X.A) (hN : X.N[i]? = some x) (hv : Vis X.env.scope x) (hx : ∀ σ, PassesAt (L2.CX X.prog X.w) X σ (E σ)) (ha : PA X (e :: es) t)
    (h1 : (x == ("__debug__" : Str)) = false := by decide) (h2 : (x == ("__classdict__" : Str)) = false := by decide) (h3 : starEach (e :: es) X.env = (false, eval e X.env) :: starEach es X.env := by rfl) (h4 : (backTo pos (starEach es X.env)).any (·.1) = false := by rfl) :
    PE X (.Call (.Name x p) (e :: es) [] pos) (tCallX P w K mg base k i E t) := by
  subst e1 e2 e3 e4 e5
  refine ⟨fun pins s σ H Q I ⟨f, sp, ⟨⟨j, fd, ps, hj, F, kp, bd⟩⟩, at_, rest⟩ => ?_⟩
  refine wpAny_Call_Name_kw (thn ((pe_var (pos := p) hN hv h1 h2).run pins s σ H (fun w1 Hq => w1 = .ref f ∧ Hq = H) I ⟨.ref f, at_, rfl, rfl⟩) fun u s1 ⟨w1, Hq, I1, r1, ⟨e1, e2⟩⟩ => ?_)
  subst e1 e2
  cases r1
  exact PySem.W.callWith_K (h₀ := X.base) I.ok.mod.kin kp (thn (ha.run pos pins s1 σ _ _ I1 rest) fun us s2 ⟨vs, H2, I2, r, q⟩ => ⟨I2.kIn, run_fnS F (hr.mono hj) bd (hx σ) I2 r q⟩) h3 h4
end
end Ex2
/-! ## objects that are no integers; loops over written lists; one item of a list of anything -/
namespace Rd
open PySem PySem.Spec PyProof.Rows L2
def TS1 : List String := ["NoneType", "tuple", "list", "dict"]
/-- an address is marked as the source's -/
def IsSrc (_ : Addr) : Prop := True
def TS0 : List String := ["NoneType", "str", "tuple", "list", "dict"]
/-- none, a text, a tuple, a list of another length than two, a dict -/
inductive OddN (H : Hp) : V → Prop where
  | non : OddN H .non
  | str (x : Str) : OddN H (.str x)
  | tup {p : Addr} {xs : List V} (e : H p = some (.tup xs)) : OddN H (.ref p)
  | lst {p : Addr} {xs : List V} (e : H p = some (.lst xs)) (n : xs.length ≠ 2) : OddN H (.ref p)
  | dK {p : Addr} {kvs : List (Key × V)} (e : H p = some (.dK kvs)) : OddN H (.ref p)
theorem OddN.ty {K : PySem.W.Frag} {H : Hp} {v : V} : OddN H v → ∃ T, T ∈ TS0 ∧ TyX K H v (.type T)
  | .non => ⟨_, by decide, .base .non⟩
  | .str x => ⟨_, by decide, .base (.str x)⟩
  | .tup e => ⟨_, by decide, .base (.tup e)⟩
  | .lst e _ => ⟨_, by decide, .base (.lst e)⟩
  | .dK e => ⟨_, by decide, .base (.dK e)⟩
theorem OddN.same {H H' : Hp} {v : V} (S : Same H H') : OddN H v → OddN H' v
  | .non => .non
  | .str x => .str x
  | .tup e => .tup (S _ _ e)
  | .lst e n => .lst (S _ _ e) n
  | .dK e => .dK (S _ _ e)
theorem OddN.ty1 {K : PySem.W.Frag} {H : Hp} {v : V} : OddN H v → (∃ x, v = .str x) ∨ ∃ T, T ∈ TS1 ∧ TyX K H v (.type T)
  | .non => .inr ⟨_, by decide, .base .non⟩
  | .str x => .inl ⟨_, rfl⟩
  | .tup e => .inr ⟨_, by decide, .base (.tup e)⟩
  | .lst e _ => .inr ⟨_, by decide, .base (.lst e)⟩
  | .dK e => .inr ⟨_, by decide, .base (.dK e)⟩
theorem OddN.new {H : Hp} {v : V} {p : Addr} {o : HO} (n : H p = none) (h : OddN H v) : OddN (upd H p o) v := h.same fun b u e => by
  rw [upd_ne (ne_of_none e n)]; exact e
theorem OddN.two {H : Hp} {v : V} {a : Addr} {x y : V} {o : HO} (e : H a = some (.lst [x, y])) (h : OddN H v) : OddN (upd H a o) v := by
  cases h with
  | non => exact .non
  | str x => exact .str x
  | tup q => exact .tup (by rw [upd_ne (ne_of q e (by intro z; cases z))]; exact q)
  | lst q n => exact .lst (by rw [upd_ne (ne_of q e (by intro z; cases z; exact n rfl))]; exact q) n
  | dK q => exact .dK (by rw [upd_ne (ne_of q e (by intro z; cases z))]; exact q)
theorem tyof_same {K : PySem.W.Frag} {H H' : Hp} {y : V} {t : Value} (S : Same H H') (h : TyOf K H y t) : TyOf K H' y t := by
  cases h with
  | non => exact .non
  | bl x => exact .bl x
  | int x => exact .int x
  | str x => exact .str x
  | flt x => exact .flt x
  | lst e => exact .lst (S _ _ e)
  | frz e => exact .frz (S _ _ e)
  | tup e => exact .tup (S _ _ e)
  | dK e => exact .dK (S _ _ e)
  | dT e => exact .dT (S _ _ e)
  | ins e c a n k m => exact .ins (S _ _ e) c a n k m
theorem tyx_same {K : PySem.W.Frag} {H H' : Hp} {y : V} {t : Value} (S : Same H H') (h : TyX K H y t) : TyX K H' y t := by
  cases h with
  | base b => exact .base (tyof_same S b)
  | byt b => exact .byt b
  | set e => exact .set (S _ _ e)
  | kList e c => exact .kList e c
  | kTuple e c => exact .kTuple e c
  | kDict e c => exact .kDict e c
  | fTuple e => exact .fTuple (S _ _ e)
  | fDict e => exact .fDict (S _ _ e)
theorem kit_TS_int {K : PySem.W.Frag} : ∀ T ∈ TS0, PySem.W.kitOne K (.type T) (.type "int") = some false := by
  intro T h
  simp only [TS0, List.mem_cons, List.not_mem_nil, or_false] at h
  rcases h with rfl | rfl | rfl | rfl | rfl
  exact kit_none_int
  exact kit_str_int
  exact kit_tuple_int
  exact kit_list_int
  exact kit_dict_int
/-- .. or a truth -/
def OddV (H : Hp) (v : V) : Prop := OddN H v ∨ ∃ b, v = .bl b
theorem OddV.same {H H' : Hp} {v : V} (S : Same H H') (h : OddV H v) : OddV H' v := h.imp (·.same S) id
theorem dp_ss {K : PySem.W.Frag} {H : Hp} {p : Addr} {a b : Str} (h : SqL K H p [.str a, .str b]) : Dp K H (.ref p) (.list [.str a, .str b]) := .lst h (.cons (.str _) (.cons (.str _) .nil))
theorem shaped_ss {a b : Str} (ha : PyData.strOk a = true) (hb : PyData.strOk b = true) : SeqAt.shaped (.list [.str a, .str b]) = true := by
  simp only [PySem.SeqAt.shaped, PySem.PyData.canLay0, PySem.PyData.canLayAll0, PySem.PyData.depth, PySem.PyData.depthAll, ha, hb]; rfl
theorem OddV.sameR {H H' : Hp} {v : V} (h : OddV H v) (S : Same H H') : OddV H' v := h.same S
theorem eqv_ss (a b : Str) : PyData.eqv (.list [.str a, .str b]) (.list [.str a, .str b]) = true := by simp [PyData.eqv, PyData.eqvAll]
/-- of a list of anything one item: what all its items keep -/
theorem pickV (P : Hp → V → Prop) {K : PySem.W.Frag} {H : Hp} {a : Addr} {xs : List V} {d : Int} {Q : VK} (e : SqL K H a xs) (hm : ∀ v ∈ xs, P H v) (h0 : 0 ≤ d) (h1 : d < (xs.length : Int))
    (k : ∀ v, v ∈ xs → P H v → Q v H) : rIxL K (.ref a) (.int d) H Q := by
  obtain ⟨j, rfl⟩ : ∃ j : Nat, d = (j : Int) := ⟨d.toNat, by omega⟩
  have hj : j < xs.length := by omega
  exact ixL e (atI_nat (List.getElem?_eq_getElem hj)) (k _ (List.getElem_mem hj) (hm _ (List.getElem_mem hj)))
theorem catL {H : Hp} {l b : Addr} {xs zs : List V} {Q : VK} (h1 : H l = some (.lst xs)) (h2 : H b = some (.lst zs)) (n : xs.length + zs.length ≤ 1000) (k : ∀ p, H p = none → Q (.ref p) (upd H p (.lst (xs ++ zs)))) : rCat (.ref l) (.ref b) H Q :=
  ⟨l, b, xs, zs, rfl, rfl, h1, h2, Nat.le_of_lt (small1000 n), k⟩
/-- a loop over a list that is known whole, turn by turn -/
def unr (K : PySem.W.Frag) (a : Addr) (all : List V) (g : TG) (tb : TS) (D : Ends) : List V → L2.St → Hp → Prop
  | [], σ, H => D.nx σ H
  | x :: xs, σ, H => g x σ H fun σ2 H2 => tb { D with nx := fun σ' H' => SqL K H' a all ∧ unr K a all g tb D xs σ' H', ct := fun σ' H' => SqL K H' a all ∧ unr K a all g tb D xs σ' H', bk := D.nx } σ2 H2
theorem unroll {K : PySem.W.Frag} {a : Addr} {all : List V} {g : TG} {tb : TS} {D : Ends} {σ : L2.St} {H : Hp} (h0 : SqL K H a all) (h : unr K a all g tb D all σ H) :
    ∃ W : Nat → Nat → L2.St → Hp → Prop, (∃ m, W 0 m σ H) ∧ ∀ i m σ H, W i m σ H →
      ((Itl K a).stop i H ∧ D.nx σ H) ∨ ((Itl K a).go i H ∧ ∃ N : L2.St → Hp → Prop, (∀ σ' H', N σ' H' → ∃ m', m' < m ∧ W (i + 1) m' σ' H') ∧ ∀ x H', (Itl K a).yld i H x H' → g x σ H' fun σ2 H2 => tb { D with nx := N, ct := N, bk := D.nx } σ2 H2) := by
  refine for_list (xs := all) (fun i σ H => SqL K H a all ∧ unr K a all g tb D (all.drop i) σ H) ⟨h0, h⟩ (fun i σ H _ p => p.1) (fun i x σ H hx p => ?_) (fun σ H p => ?_)
  · have hi : i < all.length := (List.getElem?_eq_some_iff.mp hx).1
    have e : all.drop i = x :: all.drop (i + 1) := by rw [List.drop_eq_getElem_cons hi]; congr 1; exact (List.getElem?_eq_some_iff.mp hx).2
    have q := p.2
    rw [e] at q
    exact q
  · have q := p.2
    rw [List.drop_length] at q
    exact q
theorem unroll2 {K : PySem.W.Frag} {a : Addr} {all : List V} {g : TG} {tb : TS} {D : Ends} {σ : L2.St} {H : Hp} (h0 : SqL K H a all) (h : unr K a all g tb D all σ H) :
    (∃ xs, SqL K H a xs) ∧ ∃ W : Nat → Nat → L2.St → Hp → Prop, (∃ m, W 0 m σ H) ∧ ∀ i m σ H, W i m σ H →
      ((Itl K a).stop i H ∧ D.nx σ H) ∨ ((Itl K a).go i H ∧ ∃ N : L2.St → Hp → Prop, (∀ σ' H', N σ' H' → ∃ m', m' < m ∧ W (i + 1) m' σ' H') ∧ ∀ x H', (Itl K a).yld i H x H' → g x σ H' fun σ2 H2 => tb { D with nx := N, ct := N, bk := D.nx } σ2 H2) := ⟨⟨_, h0⟩, unroll h0 h⟩
theorem unrCons {K : PySem.W.Frag} {a : Addr} {all : List V} {g : TG} {tb : TS} {D : Ends} {x : V} {xs : List V} {σ : L2.St} {H : Hp}
    (h : g x σ H fun σ2 H2 => tb { D with nx := fun σ' H' => SqL K H' a all ∧ unr K a all g tb D xs σ' H', ct := fun σ' H' => SqL K H' a all ∧ unr K a all g tb D xs σ' H', bk := D.nx } σ2 H2) : unr K a all g tb D (x :: xs) σ H := h
theorem unrNil {K : PySem.W.Frag} {a : Addr} {all : List V} {g : TG} {tb : TS} {D : Ends} {σ : L2.St} {H : Hp} (h : D.nx σ H) : unr K a all g tb D [] σ H := h
/-- {k: v} of written values -/
theorem disp1 {σ : L2.St} {H : Hp} {Q : VK} {i : Int} {x : V} (h : ∀ p, H p = none → Q (.ref p) (upd H p (.dK [(.inl i, x)]))) : tDisp [(tC (.int i), tC x)] σ H Q :=
  fun p np => ⟨upd_same, [(.inl i, x)], rfl, Nat.le_of_ble_eq_true rfl, by rw [upd_upd]; exact h p np⟩
theorem newK {σ : L2.St} {H : Hp} {Q : VK} (h : ∀ p, H p = none → Q (.ref p) (upd H p (.dK []))) : tDNewK σ H Q := h
theorem ty_str {b : Str} : ∀ u, RelV (.str b) u → typeOf u = pure (.type "str") := by
  intro u r
  obtain ⟨t, q⟩ := (show ∃ t, u = Value.str b t from r)
  cases q
  rfl
theorem ty_bl {b : Bool} : ∀ u, RelV (.bl b) u → typeOf u = pure (.type "bool") := by
  intro u r
  cases (show u = Value.bool b from r)
  rfl
end Rd
/-! ## static methods, called by their class; a def's promise that is its own body; small helpers -/
namespace Sta
open PySem PySem.Spec PyProof.Rows L2
structure SMet (K : PySem.W.Frag) (C : Addr) (m : Str) (f : Addr) : Prop where
  rd : PySem.W.readsIn K C (.type "type") = true
  ga : PySem.W.specialIn K (.ref C) "__getattribute__" = some (some (.builtin "type.__getattribute__"))
  at_ : ∃ p rest, PySem.W.findCls K (.ref C) (.type "type") m = some (.get (.builtin "staticmethod.__get__") (.ref p) .none (.ref C)) ∧ PySem.W.recIn K p "staticmethod" = some (.ref f :: rest)
  kp : PySem.W.keepIn K (.ref f) = true
def tSMeth (C : Addr) (sp : Sp) (dvs : List V) (E : XK) (ta : TE) (t : TA) : TE := fun σ H Q => ta σ H fun x H1 => x = .ref C ∧ t σ H1 fun vs H2 => sp (vs ++ dvs) H2 Q E
section
variable {X : Cx} {CX : CXT} {k : Nat} {C f : Addr} {fd : FuncData} {ps : List Str} {ds : List Value} {dvs : List V} {sp : Sp} {E : XK} {o e : Expr} {es : List Expr} {m : Str} {pos apos : Pos} {ta : TE} {t : TA} {pl : Sem Bool}
theorem getmeth_sm {pins : List (Addr × Obj)} {σ : L2.St} {H : Hp} {s : Shared} {A : Around} {E' : Value → Shared → Prop} {Q : Value × List Value → Shared → Prop} (I : Inv X pins σ H s) (c : SMet X.K C m f)
    (h : ∀ s', Inv X pins σ H s' → Q (.ref f, []) s') : wpAny (model X.prog X.w) A (getMethod (.ref C) m pl) Q E' s := by
  obtain ⟨p, rest, a1, a2⟩ := c.at_
  exact PySem.W.method_cls I.kIn c.ga (PySem.W.cls_bind I.kIn c.rd a1 (wpAny_call (PySem.W.sm_get (s := { s with toks := s.toks + 1 }) I.kIn a2 (PySem.W.handed_on rfl (h _ (I.tok _))))))
theorem pe_smeth (he : PE X o ta) (c : SMet X.K C m f) (F : FnOk X.prog X.w X.K X.mg X.base CX k f fd ps sp) (hr : Room k X.A) (hb : Binds X.K fd ps ds) (hd : Vals dvs ds) (hx : Passes CX X E) (ha : PA X (e :: es) t)
    (hst : starEach (e :: es) X.env = (false, eval e X.env) :: starEach es X.env := by rfl) (hpl : (backTo pos (starEach es X.env)).any (·.1) = false := by rfl)
    (ht : eval (.Call (.Attribute o m apos) (e :: es) [] pos) X.env = (do
      let ov ← eval o X.env
      standAt apos.atName
      let (f, first) ← holding [ov] (getMethod ov m pl)
      callWith pos f first (backTo pos (starEach (e :: es) X.env)) (backToKw pos (keywordEach [] X.env))) := by rfl) :
    PE X (.Call (.Attribute o m apos) (e :: es) [] pos) (tSMeth C sp dvs E ta t) := by
  refine ⟨fun pins s σ H Q I h => ?_⟩
  refine PySem.W.methodCall_KW (pl := pl) (thn (he.run pins s σ H _ I h) fun u s1 ⟨x, H1, I1, rx, ex, q⟩ => ?_) ht
  subst ex
  obtain rfl : u = Value.ref C := rx
  refine getmeth_sm I1 c fun s2 I2 => ?_
  refine PySem.W.callWith_K (first := []) (h₀ := X.base) I2.ok.mod.kin c.kp (thn (ha.run pos pins s2 σ H1 _ I2 q) fun us s3 ⟨vs, H2, I3, r, q2⟩ => ⟨I3.kIn, ?_⟩) hst hpl
  exact run_fn (us := us) (vs := vs) F hr hb hd hx I3 r q2
theorem pe_smeth0 (he : PE X o ta) (c : SMet X.K C m f) (F : FnOk X.prog X.w X.K X.mg X.base CX k f fd ps sp) (hr : Room k X.A) (hb : Binds X.K fd ps ds) (hd : Vals dvs ds) (hx : Passes CX X E)
    (ht : eval (.Call (.Attribute o m apos) [] [] pos) X.env = (do
      let ov ← eval o X.env
      standAt apos.atName
      let (f, first) ← holding [ov] (getMethod ov m pl)
      callWith pos f first (backTo pos (starEach [] X.env)) (backToKw pos (keywordEach [] X.env))) := by rfl) :
    PE X (.Call (.Attribute o m apos) [] [] pos) (tSMeth C sp dvs E ta tNil) := by
  refine ⟨fun pins s σ H Q I h => ?_⟩
  refine PySem.W.methodCall_KW (pl := pl) (thn (he.run pins s σ H _ I h) fun u s1 ⟨x, H1, I1, rx, ex, q⟩ => ?_) ht
  subst ex
  obtain rfl : u = Value.ref C := rx
  refine getmeth_sm I1 c fun s2 I2 => ?_
  exact PySem.W.callWith_K0 (first := []) I2.kIn c.kp (run_fn (us := []) (vs := []) F hr hb hd hx I2 .nil q)
/-- a def that may raise, called where nothing may leave -/
theorem passF {X : Cx} : Passes (L2.CX X.prog X.w) X E0 := fun _ _ _ _ _ _ _ ⟨_, _, _, _, _, _, _, _, _, _, _, _, z⟩ => z.elim
end
end Sta
namespace Rd
open PySem PySem.Spec PyProof.Rows L2
section
variable {σ : L2.St} {H : Hp} {Q : VK} {D : Ends} {K : PySem.W.Frag}
theorem smeth {C : Addr} {sp : Sp} {dvs : List V} {E : XK} {ta : TE} {t : TA} (h : ta σ H fun x H1 => x = .ref C ∧ t σ H1 fun vs H2 => sp (vs ++ dvs) H2 Q E) : Sta.tSMeth C sp dvs E ta t σ H Q := h
theorem m0 {r : V → List V → Hp → VK → Prop} {to : TE} (h : to σ H fun x H1 => (∃ a, x = .str a) ∧ r x [] H1 Q) : tM0 r to σ H Q := h
theorem m1 {r : V → List V → Hp → VK → Prop} {to te : TE} (h : to σ H fun x H1 => (∃ a, x = .str a) ∧ te σ H1 fun y H2 => r x [y] H2 Q) : tM1 r to te σ H Q := h
theorem fmt {te : TE} (h : te σ H fun x H1 => (∃ y : Str, x = .str y ∧ y.length ≤ sizeLine ∧ Q (.str y) H1) ∨ ∃ i : Int, x = .int i ∧ i.natAbs.log2 < 1920 ∧ Q (.str (toString i)) H1) : tFmt te σ H Q := h
theorem chainP {r' : R2} {tc : TE} {y : V} {c d : Bool} (h1 : ∀ Q' : VK, Q' (.bl d) H → tc σ H fun w' H4 => r' y w' H4 Q') (h : Q (.bl (c && d)) H) : if c = true then tc σ H (fun w' H4 => r' y w' H4 Q) else Q (.bl false) H := by
  cases c with
  | true => exact h1 Q h
  | false => exact h
theorem peN {X : Cx} {e : Expr} : PE X e (fun _ _ _ => False) := ⟨fun _ _ _ _ _ _ z => z.elim⟩
theorem ptN {X : Cx} {e : Expr} : PT X e (fun _ _ _ => False) := ⟨fun _ _ _ _ _ _ z => z.elim⟩
theorem via {sp : Sp} {vs : List V} {E : XK} (Post : V → Hp → Prop) (h1 : ∀ Q' : VK, (∀ v H', Post v H' → Q' v H') → sp vs H Q' E) (h2 : ∀ v H', Post v H' → Q v H') : sp vs H Q E := h1 Q h2
end
end Rd
/-! ## counting truths in a list -/
namespace Cnt
open PySem PySem.Spec PyProof.Rows L2
theorem bools_of : ∀ {bs : List Bool} {us : List Value}, Vals (bs.map V.bl) us → us = bs.map Value.bool
  | [], _, .nil => rfl
  | b :: bs, _, .cons r rs => by
    have e1 := bools_of rs
    have e2 : _ = Value.bool b := r
    rw [e2, e1]
    rfl
def isB (k : Bool) : Value → Bool
  | .bool b => b == k
  | _ => false
theorem count_isB (k : Bool) : ∀ bs : List Bool, (bs.map Value.bool).countP (isB k) = bs.count k
  | [] => rfl
  | b :: bs => by
    rw [List.map_cons, List.countP_cons, count_isB k bs, List.count_cons]
    rfl
section
variable {X : Cx}
def rCntB (K : PySem.W.Frag) : V → List V → Hp → VK → Prop := fun x xs H Q => ∃ (p : Addr) (bs : List Bool) (k : Bool), x = .ref p ∧ xs = [.bl k] ∧ SqL K H p (bs.map V.bl) ∧ Q (.int (bs.count k : Nat)) H
theorem mt_countB : MtR X "list.count" (rCntB X.K) := by
  intro pins s σ H x xs vv us Q Inv0 rx rxs told
  obtain ⟨p, bs, k, rfl, rfl, sq, goal⟩ := told
  cases rx
  obtain ⟨u, rfl, ru⟩ := rxs.one
  have eu : u = Value.bool k := ru
  subst eu
  obtain ⟨its, rv, ⟨⟨c0, d0, dat0, sl0⟩, n, at0, ec, ed, edat⟩, len0⟩ := Inv0.list sq
  simp only at ec edat
  subst ec edat
  have es := bools_of rv
  refine call_meets PySem.F.slot_list_count ⟨_, at0, rfl⟩ PySem.F.entry_list_count (PySem.F.args_list_count_2 _ _)
    (SeqAt.list_countAt p its.toArray n d0 sl0 (.bool k) (isB k)) ⟨at0, fun y hy => ?_, ?_⟩
  · have hm : y ∈ bs.map Value.bool := by rw [← es]; simpa using hy
    obtain ⟨b, _, rfl⟩ := List.mem_map.mp hm
    exact SeqAt.EqAt.bool_bool b k
  · have en : its.toArray.toList.countP (isB k) = bs.count k := by
      show its.countP (isB k) = _
      rw [es]
      exact count_isB k bs
    refine ⟨.int (bs.count k : Nat), H, Inv0.tok _, ⟨s.toks, ?_⟩, goal⟩
    show Value.int ((its.toArray.toList.countP (isB k) : Nat) : Int) s.toks = _
    rw [en]
end
end Cnt
/-! ## comprehensions over written sources, item by item; ways joined behind an if -/
namespace Rd
open PySem PySem.Spec PyProof.Rows L2
/-- what is left of a comprehension, item by item; st says that the source stands -/
def Rem (D : Addr) (g : TG) (tt : TT) (te : TE) (vs : List Nat) (σ : L2.St) (st Q : Hp → Prop) : List V → Hp → Prop
  | [], H => st H ∧ Q H
  | x :: r, H => st H ∧ g x (wipe σ vs) H fun σ2 H2 => wipe σ2 vs = wipe σ vs ∧ tt σ2 H2 fun b H3 => if b = true then te σ2 H3 fun y H4 => ∃ acc, H4 D = some (.lst acc) ∧ acc.length < sizeLine ∧ Rem D g tt te vs σ st Q r (upd H4 D (.lst (acc ++ [y]))) else Rem D g tt te vs σ st Q r H3
section
variable {σ : L2.St} {H : Hp} {Q : VK} {K : PySem.W.Frag} {D : Addr} {g : TG} {tt : TT} {te : TE} {vs : List Nat} {st Qd : Hp → Prop}
theorem rem_st {l : List V} (h : Rem D g tt te vs σ st Qd l H) : st H := by cases l <;> exact h.1
theorem remCons {x : V} {r : List V} (h0 : st H) (h : g x (wipe σ vs) H fun σ2 H2 => wipe σ2 vs = wipe σ vs ∧ tt σ2 H2 fun b H3 => if b = true then te σ2 H3 fun y H4 => ∃ acc, H4 D = some (.lst acc) ∧ acc.length < sizeLine ∧ Rem D g tt te vs σ st Qd r (upd H4 D (.lst (acc ++ [y]))) else Rem D g tt te vs σ st Qd r H3) : Rem D g tt te vs σ st Qd (x :: r) H := ⟨h0, h⟩
theorem remNil (h0 : st H) (h : Qd H) : Rem D g tt te vs σ st Qd [] H := ⟨h0, h⟩
theorem drop_at {l : List V} {i : Nat} {x : V} (h : l[i]? = some x) : l.drop i = x :: l.drop (i + 1) := by
  obtain ⟨hi, e⟩ := List.getElem?_eq_some_iff.mp h
  rw [List.drop_eq_getElem_cons hi, e]
/-- over a written list -/
theorem lcUnrL {Qa : Addr → Hp → Prop} {a : Addr} {xs : List V} (hs : SqL K H a xs) (h : ∀ D, H D = none → Rem D g tt te vs σ (fun H' => SqL K H' a xs) (fun H' => Qa D H') xs (upd H D (.lst []))) :
    (∃ xs, SqL K H a xs) ∧ ∀ D, H D = none → ∃ W : Nat → Nat → Hp → Prop, (∃ m, W 0 m (upd H D (.lst []))) ∧ ∀ t m H, W t m H →
      ((Itl K a).stop t H ∧ Qa D H) ∨ ((Itl K a).go t H ∧ ∃ Nx : Hp → Prop, (∀ H', Nx H' → ∃ m', m' < m ∧ W (t + 1) m' H') ∧ ∀ x H', (Itl K a).yld t H x H' → g x (wipe σ vs) H' fun σ2 H2 => wipe σ2 vs = wipe σ vs ∧ tt σ2 H2 fun b H3 =>
        if b = true then te σ2 H3 fun y H4 => ∃ acc, H4 D = some (.lst acc) ∧ acc.length < sizeLine ∧ Nx (upd H4 D (.lst (acc ++ [y]))) else Nx H3) :=
  ⟨⟨_, hs⟩, fun D hD => lc_list (xs := xs) (fun i H' => Rem D g tt te vs σ (fun H' => SqL K H' a xs) (fun H' => Qa D H') (xs.drop i) H') (h D hD) (fun _ _ _ p => rem_st p) (fun i x H' hx p => by rw [drop_at hx] at p; exact p.2) fun H' p => by
    rw [List.drop_length] at p
    exact p.2⟩
/-- over a written tuple -/
theorem lcUnrT {Qa : Addr → Hp → Prop} {a : Addr} {xs : List V} (hs : SqT K H a xs) (h : ∀ D, H D = none → Rem D g tt te vs σ (fun H' => SqT K H' a xs) (fun H' => Qa D H') xs (upd H D (.lst []))) :
    (∃ xs, SqT K H a xs) ∧ ∀ D, H D = none → ∃ W : Nat → Nat → Hp → Prop, (∃ m, W 0 m (upd H D (.lst []))) ∧ ∀ t m H, W t m H →
      ((Itt K a).stop t H ∧ Qa D H) ∨ ((Itt K a).go t H ∧ ∃ Nx : Hp → Prop, (∀ H', Nx H' → ∃ m', m' < m ∧ W (t + 1) m' H') ∧ ∀ x H', (Itt K a).yld t H x H' → g x (wipe σ vs) H' fun σ2 H2 => wipe σ2 vs = wipe σ vs ∧ tt σ2 H2 fun b H3 =>
        if b = true then te σ2 H3 fun y H4 => ∃ acc, H4 D = some (.lst acc) ∧ acc.length < sizeLine ∧ Nx (upd H4 D (.lst (acc ++ [y]))) else Nx H3) :=
  ⟨⟨_, hs⟩, fun D hD => lc_tup (xs := xs) (fun i H' => Rem D g tt te vs σ (fun H' => SqT K H' a xs) (fun H' => Qa D H') (xs.drop i) H') (h D hD) (fun _ _ _ p => rem_st p) (fun i x H' hx p => by rw [drop_at hx] at p; exact p.2) fun H' p => by
    rw [List.drop_length] at p
    exact p.2⟩
/-- the ints of a range -/
def rgV (lo : Int) : Nat → List V
  | 0 => []
  | n + 1 => .int lo :: rgV (lo + 1) n
theorem rgV_at : ∀ (n : Nat) (lo : Int) (i : Nat), i < n → (rgV lo n)[i]? = some (.int (lo + i))
  | n + 1, lo, 0, _ => by simp [rgV]
  | n + 1, lo, i + 1, h => by
    show (rgV (lo + 1) n)[i]? = _
    rw [rgV_at n (lo + 1) i (by omega)]
    congr 2
    omega
theorem rgV_len : ∀ (n : Nat) (lo : Int), (rgV lo n).length = n
  | 0, _ => rfl
  | n + 1, lo => by show (rgV (lo + 1) n).length + 1 = _; rw [rgV_len n]
theorem lcUnrR {Qa : Addr → Hp → Prop} {lo : Int} {n : Nat} (h : ∀ D, H D = none → Rem D g tt te vs σ (fun _ => True) (fun H' => Qa D H') (rgV lo n) (upd H D (.lst []))) :
    ∀ D, H D = none → ∃ W : Nat → Nat → Hp → Prop, (∃ m, W 0 m (upd H D (.lst []))) ∧ ∀ t m H, W t m H →
      ((Itr lo n).stop t H ∧ Qa D H) ∨ ((Itr lo n).go t H ∧ ∃ Nx : Hp → Prop, (∀ H', Nx H' → ∃ m', m' < m ∧ W (t + 1) m' H') ∧ ∀ x H', (Itr lo n).yld t H x H' → g x (wipe σ vs) H' fun σ2 H2 => wipe σ2 vs = wipe σ vs ∧ tt σ2 H2 fun b H3 =>
        if b = true then te σ2 H3 fun y H4 => ∃ acc, H4 D = some (.lst acc) ∧ acc.length < sizeLine ∧ Nx (upd H4 D (.lst (acc ++ [y]))) else Nx H3) :=
  fun D hD => lc_range (lo := lo) (n := n) (fun i H' => Rem D g tt te vs σ (fun _ => True) (fun H' => Qa D H') ((rgV lo n).drop i) H') (h D hD) (fun i H' hi p => by rw [drop_at (rgV_at n lo i hi)] at p; exact p.2) fun H' p => by
    rw [List.drop_of_length_le (by rw [rgV_len]; exact Nat.le_refl _)] at p
    exact p.2
theorem yes {q : Bool → Hp → Prop} (h : q true H) : tYes σ H q := h
/-- two ways of an if that meet -/
theorem ifJ {D : Ends} {c : TT} {t u : TS} (J : L2.St → Hp → Prop) (h1 : (∀ σ' H', J σ' H' → D.nx σ' H') → tIfS c t u D σ H) (h2 : ∀ σ' H', J σ' H' → D.nx σ' H') : tIfS c t u D σ H := h1 h2
/-- a heap known by facts alone, from here on -/
theorem comp {t : TS} {D : Ends} (P : Hp → Prop) (h0 : P H) (h : ∀ H', P H' → t D σ H') : t D σ H := h H h0
theorem truB {b : Bool} (e : b = true) (h : Q (.bl true) H) : Q (.bl b) H := by rw [e]; exact h
theorem cnt3 {p : Addr} {x y z k : Bool} (e : SqL K H p [.bl x, .bl y, .bl z]) (h : Q (.int (([x, y, z].count k : Nat) : Int)) H) : Cnt.rCntB K (.ref p) [.bl k] H Q := ⟨p, [x, y, z], k, rfl, rfl, e, h⟩
theorem feqF {a b c d : Int} (h1 : a = b) (h2 : c = d) : (!(decide (V.int a = V.int b) && decide (V.int c = V.int d))) = false := by
  rw [h1, h2, decide_eq_true rfl, decide_eq_true rfl]; rfl
theorem feqT {a b c d : Int} (h1 : a = b) (h2 : c = d) : (decide (V.int a = V.int b) && decide (V.int c = V.int d)) = true := by
  rw [h1, h2, decide_eq_true rfl, decide_eq_true rfl]; rfl
theorem neB {x y : Bool} (h : x = y) : (!decide (V.bl x = V.bl y)) = false := by rw [h, decide_eq_true rfl]; rfl
theorem tri (a b c d : Int) : (!decide (V.int (([decide (a < c ∨ a = c ∧ b < d), (decide (V.int a = V.int c) && decide (V.int b = V.int d)), decide (c < a ∨ c = a ∧ d < b)].count true : Nat) : Int) = V.int 1)) = false := by
  have e1 : decide (V.int a = V.int c) = decide (a = c) := by simp only [V.int.injEq]
  have e2 : decide (V.int b = V.int d) = decide (b = d) := by simp only [V.int.injEq]
  rw [e1, e2]
  rcases (by omega : a < c ∨ c < a ∨ (a = c ∧ b < d) ∨ (a = c ∧ d < b) ∨ (a = c ∧ b = d)) with h | h | ⟨h, g⟩ | ⟨h, g⟩ | ⟨h, g⟩
  · rw [decide_eq_true (show a < c ∨ a = c ∧ b < d by omega), decide_eq_false (show ¬ a = c by omega), decide_eq_false (show ¬ (c < a ∨ c = a ∧ d < b) by omega)]; rfl
  · rw [decide_eq_false (show ¬ (a < c ∨ a = c ∧ b < d) by omega), decide_eq_false (show ¬ a = c by omega), decide_eq_true (show (c < a ∨ c = a ∧ d < b) by omega)]; rfl
  · rw [decide_eq_true (show a < c ∨ a = c ∧ b < d by omega), decide_eq_false (show ¬ b = d by omega), Bool.and_false, decide_eq_false (show ¬ (c < a ∨ c = a ∧ d < b) by omega)]; rfl
  · rw [decide_eq_false (show ¬ (a < c ∨ a = c ∧ b < d) by omega), decide_eq_false (show ¬ b = d by omega), Bool.and_false, decide_eq_true (show (c < a ∨ c = a ∧ d < b) by omega)]; rfl
  · rw [decide_eq_false (show ¬ (a < c ∨ a = c ∧ b < d) by omega), decide_eq_true h, decide_eq_true g, decide_eq_false (show ¬ (c < a ∨ c = a ∧ d < b) by omega)]; rfl
theorem stepLt {a b c d t : Int} (h : 0 < t) : decide (a * t < c * t ∨ a * t = c * t ∧ b * t < d * t) = decide (a < c ∨ a = c ∧ b < d) := by
  have m1 : a * t < c * t ↔ a < c := Int.mul_lt_mul_right h
  have m2 : b * t < d * t ↔ b < d := Int.mul_lt_mul_right h
  have m3 : a * t = c * t ↔ a = c := ⟨fun e => Int.eq_of_mul_eq_mul_right (by omega) e, fun e => by rw [e]⟩
  rw [decide_eq_decide, m1, m2, m3]
theorem stepGt {a b c d t : Int} (h : 0 < t) : decide (a * (0 - t) < c * (0 - t) ∨ a * (0 - t) = c * (0 - t) ∧ b * (0 - t) < d * (0 - t)) = decide (c < a ∨ c = a ∧ d < b) := by
  have n : ∀ x : Int, x * (0 - t) = -(x * t) := fun x => by rw [Int.zero_sub, Int.mul_neg]
  have m1 : a * (0 - t) < c * (0 - t) ↔ c < a := by rw [n, n, Int.neg_lt_neg_iff]; exact Int.mul_lt_mul_right h
  have m2 : b * (0 - t) < d * (0 - t) ↔ d < b := by rw [n, n, Int.neg_lt_neg_iff]; exact Int.mul_lt_mul_right h
  have m3 : a * (0 - t) = c * (0 - t) ↔ c = a := ⟨fun e => (Int.eq_of_mul_eq_mul_right (by omega) e).symm, fun e => by rw [e]⟩
  rw [decide_eq_decide, m1, m2, m3]
end
end Rd
/-! ## schemes: words, dicts, written tuples, calls by keywords -/
namespace Rd
open PySem PySem.Spec PyProof.Rows L2
section
variable {σ : L2.St} {H : Hp} {Q : VK} {D : Ends} {K : PySem.W.Frag}
theorem mkK {C : Addr} {m : Nat} {sp : Sp} {gV : List V → List V → List V} {E : XK} {tk : TA} (h : tk σ H fun zs H2 => ([] : List V).length = 0 ∧ zs.length = m ∧ ∀ x dx, H2 x = none → H2 dx = none → dx ≠ x →
    sp (gV (.ref x :: []) zs) (upd (upd H2 dx (.own x)) x (.ins C dx [])) (fun v H3 => v = .non ∧ Q (.ref x) H3) E) : tMakeK C 0 m sp gV E tNil tk σ H Q := h
theorem dget {td ty : TE} (h : td σ H fun x H1 => ty σ H1 fun y H2 => ∃ a v, x = .ref a ∧ DGet H2 a y (some v) ∧ Q v H2) : tDGet td ty σ H Q := h
theorem dget2 {a : Addr} {kvs : List (Key × V)} {z : Str} {v : V} {R : V → Prop} (e : H a = some (.dK kvs)) (l : valV kvs (.inr z) = some v) (h : R v) : ∃ a' v, V.ref a = .ref a' ∧ DGet H a' (.str z) (some v) ∧ R v :=
  ⟨a, v, rfl, by have := DGet.k (k := Sum.inr z) e; rw [l] at this; exact this, h⟩
/-- a written tuple, whatever the heap -/
def SqTK (K : PySem.W.Frag) (a : Addr) (xs : List V) : Prop := ∀ H, SqT K H a xs
theorem SqTK.get {a : Addr} {xs : List V} (h : SqTK K a xs) : SqT K H a xs := h H
theorem inW {s : Str} {ws : List Str} (h : s ∈ ws) : inV (.str s) (ws.map V.str) = true := by
  unfold inV
  rw [List.any_eq_true]
  exact ⟨.str s, List.mem_map.mpr ⟨s, h, rfl⟩, by simp [eqV]⟩
theorem pickAny {a : Addr} {xs : List V} {d : Int} (e : SqL K H a xs) (h0 : 0 ≤ d) (h1 : d < (xs.length : Int)) (k : ∀ v, v ∈ xs → Q v H) : rIxL K (.ref a) (.int d) H Q := by
  obtain ⟨j, rfl⟩ : ∃ j : Nat, d = (j : Int) := ⟨d.toNat, by omega⟩
  have hj : j < xs.length := by omega
  exact ixL e (atI_nat (List.getElem?_eq_getElem hj)) (k _ (List.getElem_mem hj))
theorem bits {to : TE} (h : to σ H fun x H1 => ∃ i, x = .int i ∧ Q (.int (Builtin.Int.intBits i : Nat)) H1) : tBits to σ H Q := h
theorem tru {ta : TE} {q : Bool → Hp → Prop} (h : ta σ H fun x H' => ∃ k, TruV K x H' k ∧ q k H') : (fun σ H Q => ta σ H fun x H' => ∃ k, TruV K x H' k ∧ Q k H' : TT) σ H q := h
theorem truI {i : Int} : TruV K (.int i) H (i != 0) := rfl
theorem rng2 {ta : TA} {R : It → Hp → Prop} (h : ta σ H fun vs H1 => ∃ i j : Int, vs = [.int i, .int j] ∧ (-(2 ^ 62) ≤ i ∧ i < 2 ^ 62 ∧ -(2 ^ 62) ≤ j ∧ j < 2 ^ 62) ∧ R (Itr i (j - i).toNat) H1) : iRng2 ta σ H R := h
theorem notF {b : Bool} (h : b = true) : (!b) = false := by rw [h]; rfl
theorem inT {p : Addr} {x : V} {xs : List V} (e : SqL K H p xs ∨ SqT K H p xs) (f1 : flatV x = true) (f2 : xs.all flatV = true) (h : Q (.bl (inV x xs)) H) : rIn K false x (.ref p) H Q := ⟨p, xs, rfl, e, f1, f2, h⟩
theorem kt_int_int {K : PySem.W.Frag} : PySem.W.kitOne K (.type "int") (.type "int") = some true := kit_ty (by decide +kernel)
theorem kt_int_bool {K : PySem.W.Frag} : PySem.W.kitOne K (.type "int") (.type "bool") = some false := kit_ty (by decide +kernel)
theorem kt_int_str {K : PySem.W.Frag} : PySem.W.kitOne K (.type "int") (.type "str") = some false := kit_ty (by decide +kernel)
theorem kt_int_tuple {K : PySem.W.Frag} : PySem.W.kitOne K (.type "int") (.type "tuple") = some false := kit_ty (by decide +kernel)
theorem kt_int_list {K : PySem.W.Frag} : PySem.W.kitOne K (.type "int") (.type "list") = some false := kit_ty (by decide +kernel)
theorem kt_int_dict {K : PySem.W.Frag} : PySem.W.kitOne K (.type "int") (.type "dict") = some false := kit_ty (by decide +kernel)
theorem kt_bool_int {K : PySem.W.Frag} : PySem.W.kitOne K (.type "bool") (.type "int") = some true := kit_ty (by decide +kernel)
theorem kt_bool_bool {K : PySem.W.Frag} : PySem.W.kitOne K (.type "bool") (.type "bool") = some true := kit_ty (by decide +kernel)
theorem kt_bool_str {K : PySem.W.Frag} : PySem.W.kitOne K (.type "bool") (.type "str") = some false := kit_ty (by decide +kernel)
theorem kt_bool_tuple {K : PySem.W.Frag} : PySem.W.kitOne K (.type "bool") (.type "tuple") = some false := kit_ty (by decide +kernel)
theorem kt_bool_list {K : PySem.W.Frag} : PySem.W.kitOne K (.type "bool") (.type "list") = some false := kit_ty (by decide +kernel)
theorem kt_bool_dict {K : PySem.W.Frag} : PySem.W.kitOne K (.type "bool") (.type "dict") = some false := kit_ty (by decide +kernel)
theorem kt_str_int {K : PySem.W.Frag} : PySem.W.kitOne K (.type "str") (.type "int") = some false := kit_ty (by decide +kernel)
theorem kt_str_bool {K : PySem.W.Frag} : PySem.W.kitOne K (.type "str") (.type "bool") = some false := kit_ty (by decide +kernel)
theorem kt_str_str {K : PySem.W.Frag} : PySem.W.kitOne K (.type "str") (.type "str") = some true := kit_ty (by decide +kernel)
theorem kt_str_tuple {K : PySem.W.Frag} : PySem.W.kitOne K (.type "str") (.type "tuple") = some false := kit_ty (by decide +kernel)
theorem kt_str_list {K : PySem.W.Frag} : PySem.W.kitOne K (.type "str") (.type "list") = some false := kit_ty (by decide +kernel)
theorem kt_str_dict {K : PySem.W.Frag} : PySem.W.kitOne K (.type "str") (.type "dict") = some false := kit_ty (by decide +kernel)
theorem kt_NoneType_int {K : PySem.W.Frag} : PySem.W.kitOne K (.type "NoneType") (.type "int") = some false := kit_ty (by decide +kernel)
theorem kt_NoneType_bool {K : PySem.W.Frag} : PySem.W.kitOne K (.type "NoneType") (.type "bool") = some false := kit_ty (by decide +kernel)
theorem kt_NoneType_str {K : PySem.W.Frag} : PySem.W.kitOne K (.type "NoneType") (.type "str") = some false := kit_ty (by decide +kernel)
theorem kt_NoneType_tuple {K : PySem.W.Frag} : PySem.W.kitOne K (.type "NoneType") (.type "tuple") = some false := kit_ty (by decide +kernel)
theorem kt_NoneType_list {K : PySem.W.Frag} : PySem.W.kitOne K (.type "NoneType") (.type "list") = some false := kit_ty (by decide +kernel)
theorem kt_NoneType_dict {K : PySem.W.Frag} : PySem.W.kitOne K (.type "NoneType") (.type "dict") = some false := kit_ty (by decide +kernel)
theorem kt_tuple_int {K : PySem.W.Frag} : PySem.W.kitOne K (.type "tuple") (.type "int") = some false := kit_ty (by decide +kernel)
theorem kt_tuple_bool {K : PySem.W.Frag} : PySem.W.kitOne K (.type "tuple") (.type "bool") = some false := kit_ty (by decide +kernel)
theorem kt_tuple_str {K : PySem.W.Frag} : PySem.W.kitOne K (.type "tuple") (.type "str") = some false := kit_ty (by decide +kernel)
theorem kt_tuple_tuple {K : PySem.W.Frag} : PySem.W.kitOne K (.type "tuple") (.type "tuple") = some true := kit_ty (by decide +kernel)
theorem kt_tuple_list {K : PySem.W.Frag} : PySem.W.kitOne K (.type "tuple") (.type "list") = some false := kit_ty (by decide +kernel)
theorem kt_tuple_dict {K : PySem.W.Frag} : PySem.W.kitOne K (.type "tuple") (.type "dict") = some false := kit_ty (by decide +kernel)
theorem kt_list_int {K : PySem.W.Frag} : PySem.W.kitOne K (.type "list") (.type "int") = some false := kit_ty (by decide +kernel)
theorem kt_list_bool {K : PySem.W.Frag} : PySem.W.kitOne K (.type "list") (.type "bool") = some false := kit_ty (by decide +kernel)
theorem kt_list_str {K : PySem.W.Frag} : PySem.W.kitOne K (.type "list") (.type "str") = some false := kit_ty (by decide +kernel)
theorem kt_list_tuple {K : PySem.W.Frag} : PySem.W.kitOne K (.type "list") (.type "tuple") = some false := kit_ty (by decide +kernel)
theorem kt_list_list {K : PySem.W.Frag} : PySem.W.kitOne K (.type "list") (.type "list") = some true := kit_ty (by decide +kernel)
theorem kt_list_dict {K : PySem.W.Frag} : PySem.W.kitOne K (.type "list") (.type "dict") = some false := kit_ty (by decide +kernel)
theorem kt_dict_int {K : PySem.W.Frag} : PySem.W.kitOne K (.type "dict") (.type "int") = some false := kit_ty (by decide +kernel)
theorem kt_dict_bool {K : PySem.W.Frag} : PySem.W.kitOne K (.type "dict") (.type "bool") = some false := kit_ty (by decide +kernel)
theorem kt_dict_str {K : PySem.W.Frag} : PySem.W.kitOne K (.type "dict") (.type "str") = some false := kit_ty (by decide +kernel)
theorem kt_dict_tuple {K : PySem.W.Frag} : PySem.W.kitOne K (.type "dict") (.type "tuple") = some false := kit_ty (by decide +kernel)
theorem kt_dict_list {K : PySem.W.Frag} : PySem.W.kitOne K (.type "dict") (.type "list") = some false := kit_ty (by decide +kernel)
theorem kt_dict_dict {K : PySem.W.Frag} : PySem.W.kitOne K (.type "dict") (.type "dict") = some true := kit_ty (by decide +kernel)
theorem inW_iff {s : Str} {ws : List Str} : inV (.str s) (ws.map V.str) = decide (s ∈ ws) := by
  by_cases h : s ∈ ws
  · rw [inW h, decide_eq_true h]
  · rw [decide_eq_false h, Bool.eq_false_iff]
    intro e
    unfold inV at e
    rw [List.any_eq_true] at e
    obtain ⟨x, hx, e⟩ := e
    obtain ⟨t, ht, rfl⟩ := List.mem_map.mp hx
    have : t = s := by simpa [eqV] using e
    exact h (this ▸ ht)
theorem flatW (ws : List Str) : (ws.map V.str).all flatV = true := by
  rw [List.all_eq_true]
  intro x hx
  obtain ⟨t, _, rfl⟩ := List.mem_map.mp hx
  rfl
/-- a loop over a tuple that is known whole, turn by turn -/
def unrT (K : PySem.W.Frag) (a : Addr) (all : List V) (g : TG) (tb : TS) (D : Ends) : List V → L2.St → Hp → Prop
  | [], σ, H => D.nx σ H
  | x :: xs, σ, H => g x σ H fun σ2 H2 => tb { D with nx := fun σ' H' => SqT K H' a all ∧ unrT K a all g tb D xs σ' H', ct := fun σ' H' => SqT K H' a all ∧ unrT K a all g tb D xs σ' H', bk := D.nx } σ2 H2
theorem unrollT {a : Addr} {all : List V} {g : TG} {tb : TS} (h0 : SqT K H a all) (h : unrT K a all g tb D all σ H) :
    (∃ xs, SqT K H a xs) ∧ ∃ W : Nat → Nat → L2.St → Hp → Prop, (∃ m, W 0 m σ H) ∧ ∀ i m σ H, W i m σ H →
      ((Itt K a).stop i H ∧ D.nx σ H) ∨ ((Itt K a).go i H ∧ ∃ N : L2.St → Hp → Prop, (∀ σ' H', N σ' H' → ∃ m', m' < m ∧ W (i + 1) m' σ' H') ∧ ∀ x H', (Itt K a).yld i H x H' → g x σ H' fun σ2 H2 => tb { D with nx := N, ct := N, bk := D.nx } σ2 H2) := by
  refine ⟨⟨_, h0⟩, for_tup (xs := all) (fun i σ H => SqT K H a all ∧ unrT K a all g tb D (all.drop i) σ H) ⟨h0, h⟩ (fun i σ H _ p => p.1) (fun i x σ H hx p => ?_) (fun σ H p => ?_)⟩
  · have q := p.2
    rw [drop_at hx] at q
    exact q
  · have q := p.2
    rw [List.drop_length] at q
    exact q
theorem unrTCons {a : Addr} {all : List V} {g : TG} {tb : TS} {x : V} {xs : List V}
    (h : g x σ H fun σ2 H2 => tb { D with nx := fun σ' H' => SqT K H' a all ∧ unrT K a all g tb D xs σ' H', ct := fun σ' H' => SqT K H' a all ∧ unrT K a all g tb D xs σ' H', bk := D.nx } σ2 H2) : unrT K a all g tb D (x :: xs) σ H := h
theorem unrTNil {a : Addr} {all : List V} {g : TG} {tb : TS} (h : D.nx σ H) : unrT K a all g tb D [] σ H := h
/-- five written texts as keys -/
theorem disp5 {t1 t2 t3 t4 t5 : TE} {v1 v2 v3 v4 v5 : V} {k1 k2 k3 k4 k5 : Str} (h1 : ∀ H (R : VK), R v1 H → t1 σ H R) (h2 : ∀ H (R : VK), R v2 H → t2 σ H R) (h3 : ∀ H (R : VK), R v3 H → t3 σ H R) (h4 : ∀ H (R : VK), R v4 H → t4 σ H R) (h5 : ∀ H (R : VK), R v5 H → t5 σ H R)
    (h : ∀ p, H p = none → Q (.ref p) (upd H p (.dK (mergeK [] [(.inr k1, v1), (.inr k2, v2), (.inr k3, v3), (.inr k4, v4), (.inr k5, v5)])))) : tDisp [(tC (.str k1), t1), (tC (.str k2), t2), (tC (.str k3), t3), (tC (.str k4), t4), (tC (.str k5), t5)] σ H Q := by
  intro p np
  refine h1 _ _ (h2 _ _ (h3 _ _ (h4 _ _ (h5 _ _ ?_))))
  refine ⟨upd_same, [(.inr k1, v1), (.inr k2, v2), (.inr k3, v3), (.inr k4, v4), (.inr k5, v5)], rfl, Nat.le_of_ble_eq_true rfl, ?_⟩
  rw [upd_upd]
  exact h p np
theorem ixTK {X : Cx} {K : PySem.W.Frag} (e : X.K = K) : IxR X (rIxT K) := e ▸ ix_tup
theorem ixLK {X : Cx} {K : PySem.W.Frag} (e : X.K = K) : IxR X (rIxL K) := e ▸ ix_list
theorem tp0 {R : List (V × V) → Hp → Prop} (h : R [] H) : tPairs [] σ H R := h
theorem tp1 {tk tv : TE} {r : List (TE × TE)} {R : List (V × V) → Hp → Prop} (h : tk σ H fun x H1 => tv σ H1 fun y H2 => tPairs r σ H2 fun ps H3 => R ((x, y) :: ps) H3) : tPairs ((tk, tv) :: r) σ H R := h
theorem callS {sp : Sp} {E : L2.St → XK} {t : TA} (h : t σ H fun vs H1 => sp vs H1 Q (E σ)) : tCallS sp E t σ H Q := h
end
end Rd
/-! ## sorted(xs, key=int) of a list of ints -/
namespace SrK
open PySem PySem.Spec PyProof.Rows L2
section
variable {X : Cx} {pins : List (Addr × Obj)} {σ : L2.St} {H : Hp} {s : Shared}
/-- all objects but the one at L -/
def others (h : Heap) (L : Addr) : List (Addr × Obj) := (List.range h.objs.size).filterMap fun b => match decide (b = L) with
  | true => none
  | false => (h.get? b).map fun o => (b, o)
theorem others_mem {h : Heap} {L b : Addr} {o : Obj} : (b, o) ∈ others h L ↔ b ≠ L ∧ h.get? b = some o := by
  unfold others
  rw [List.mem_filterMap]
  constructor
  · rintro ⟨c, _, e⟩
    by_cases q : c = L
    · rw [decide_eq_true q] at e; cases e
    · rw [decide_eq_false q] at e
      obtain ⟨u, e1, e2⟩ := Option.map_eq_some_iff.mp e
      cases e2
      exact ⟨q, e1⟩
  · rintro ⟨n, e⟩
    refine ⟨b, List.mem_range.mpr (Heap.lt_size e), ?_⟩
    rw [decide_eq_false n]
    show (h.get? b).map _ = _
    rw [e]
    rfl
def none0 (h : Heap) : Heap := ⟨#[], h.life⟩
theorem none0_get (h : Heap) (b : Addr) : (none0 h).get? b = none := Heap.get?_none_of_le (Nat.zero_le _)
theorem ns_one {h : Heap} {L : Addr} {m m' : Str → Option Value} (a : h.Ns L m) (b : h.Ns L m') : m = m' := by
  obtain ⟨o, es, ep, ho, hd, _, r⟩ := a
  obtain ⟨o', es', ep', ho', hd', _, r'⟩ := b
  rw [ho] at ho'
  cases ho'
  rw [hd] at hd'
  cases hd'
  exact funext fun x => (r x).symm.trans (r' x)
/-- a new list at D; of what stood all stays but the frame's own object, which keeps its names -/
theorem laidBut {h' : Heap} {t' : Nat} {m : Str → Option Value} {D : Addr} {xs : List V} (I : Inv X pins σ H s) (hm : s.heap.Ns X.env.locals m) (hm' : h'.Ns X.env.locals m)
    (k : ∀ b o, b ≠ X.env.locals → s.heap.get? b = some o → h'.get? b = some o) (hD : D ≠ X.env.locals) (fD : s.heap.get? D = none) (new : ObjOk X.prog X.w (upd H D (.lst xs)) h' D (.lst xs)) :
    H D = none ∧ Inv X pins σ (upd H D (.lst xs)) { s with heap := h', toks := t' } := by
  have alive : ∀ b u, H b = some u → ∃ o, s.heap.get? b = some o := fun b u e => by
    have x := I.hok b u e
    cases u with
    | lst _ => obtain ⟨_, _, _, _, q⟩ := x; exact ⟨_, q⟩
    | tup _ => obtain ⟨_, _, _, o, q, _⟩ := x; exact ⟨o, q⟩
    | dK _ => obtain ⟨_, _, _, _, o, _, _, q, _⟩ := x; exact ⟨o, q⟩
    | dT _ => obtain ⟨_, _, _, _, o, _, _, q, _⟩ := x; exact ⟨o, q⟩
    | set _ _ => obtain ⟨o, _, _, _, q, _⟩ := x; exact ⟨o, q⟩
    | ins _ _ _ => obtain ⟨_, _, _, q, _⟩ := x; exact ⟨_, q⟩
    | own _ => exact x
    | xd _ => obtain ⟨_, ⟨o, _, _, q, _⟩, _⟩ := x; exact ⟨o, q⟩
    | rng _ _ => obtain ⟨_, _, _, q⟩ := x; exact ⟨_, q⟩
    | frz o _ => exact ⟨o, x.1⟩
    | tbl _ => exact ⟨_, show s.heap.get? b = some _ from x⟩
    | met _ _ => exact ⟨_, show s.heap.get? b = some _ from x⟩
    | ext _ => exact x.2.1
  have hn : H D = none := by
    cases q : H D with
    | none => rfl
    | some u => obtain ⟨o, e⟩ := alive D u q; rw [fD] at e; cases e
  have ne : ∀ b o, s.heap.get? b = some o → b ≠ D := fun b o e z => by rw [z, fD] at e; cases e
  have nH : ∀ b u, H b = some u → b ≠ D := fun b u e z => by rw [z, hn] at e; cases e
  have nL : ∀ b u, H b = some u → b ≠ X.env.locals := fun b u e z => by rw [z, I.free] at e; cases e
  refine ⟨hn, I.step (g' := s.gens) (d' := s.drawn) (ch := []) (fun _ z => nomatch z) (fun b o hL _ _ e _ => k b o hL e) (fun b o hL _ _ e _ => ⟨o.slots, k b o hL e⟩) (fun b o _ e n => by rw [upd_ne (ne b o e)]; exact n)
    (fun b o _ e => ?_) (fun b ys e => by rw [upd_ne (nH b _ e)]; exact e) (fun b o u e => by rw [upd_ne (nH b _ e)]; exact e) (fun b ps e => ⟨#[], by rw [upd_ne (nH b _ e), e]; simp⟩) (fun m2 q => by rw [← ns_one hm q]; exact hm') (fun b u e => ?_) I.bare⟩
  · by_cases hL : b = X.env.locals
    · obtain ⟨o2, _, _, q, _⟩ := hm'
      exact ⟨o2, by rw [hL]; exact q⟩
    · exact ⟨o, k b o hL e⟩
  · by_cases hb : b = D
    · subst hb
      rw [upd_same] at e
      cases e
      exact new
    · rw [upd_ne hb] at e
      refine (I.hok b u e).stay (fun c v hc q => k c v ?_ q) (fun c q => by rw [upd_ne (nH c _ q)]; exact q) fun c ys q => by rw [upd_ne (nH c _ q)]; exact q
      rcases hc with z | z
      · rw [z]; exact nL b u e
      · exact nL c _ z
def rSrtK (K : PySem.W.Frag) : List V → List V → Hp → VK → Prop := fun vs zs H Q => ∃ (a : Addr) (ns : List Int), vs = [V.ref a] ∧ zs = [.ty "int"] ∧ SqL K H a (ns.map V.int) ∧ ns.length < 64 ∧
  ∀ (ns' : List Int) (p : Addr), ns'.Perm ns → ns'.Pairwise (· ≤ ·) → H p = none → Q (.ref p) (upd H p (.lst (ns'.map V.int)))
theorem ck_sorted : CallRK X (.builtin "sorted") ["key"] (rSrtK X.K) := by
  intro pins s σ H xs zs us ws Q I r r2 h
  obtain ⟨a, ns, rfl, rfl, hs, h64, q⟩ := h
  obtain ⟨its, rv, hl, hz⟩ := I.list hs
  obtain ⟨u, rfl, ru⟩ := vals1 r2
  cases ru
  rw [Vals.ref1 r]
  obtain ⟨m, hm, _⟩ := id I.loc
  have F : Fr (none0 s.heap) X.env.locals s.heap m := ⟨hm, (fun b o e => by rw [none0_get] at e; cases e), Nat.zero_le _⟩
  have N : News (none0 s.heap) X.env.locals s.heap (others s.heap X.env.locals) := fun p hp => by
    obtain ⟨n, e⟩ := others_mem.mp hp
    exact ⟨e, n, none0_get _ _⟩
  refine ksk_letter (b := false) (kw := [(Str.ofString "key", .type "int")]) (f := .type "int") (fun i => i) F N hl.isList rv.ints h64 (ksk_s1 _ _) (fun _ => ksk_l1 _ _) (fun _ => rfl) (fun n t h tk own _ F' N' => call_int_int (KskEnd.intro F' N' fun _ z => z)) fun D vs' ns' c h' tk F' N' lo hi hlen hp ho _ => ?_
  have eD := N' _ (List.mem_cons_self ..)
  have k : ∀ b o, b ≠ X.env.locals → s.heap.get? b = some o → h'.get? b = some o := fun b o n e => (N' (b, o) (List.mem_cons_of_mem _ (others_mem.mpr ⟨n, e⟩))).1
  have fD : s.heap.get? D = none := by
    cases e : s.heap.get? D with
    | none => rfl
    | some o => exact absurd (lo (D, o) (others_mem.mpr ⟨eD.2.1, e⟩)) (Nat.lt_irrefl _)
  have new : ObjOk X.prog X.w (upd H D (.lst (ns'.map V.int))) h' D (.lst (ns'.map V.int)) := ⟨by rw [List.length_map, hp.length_eq]; rw [List.length_map] at hz; exact hz, vs', c, vals_of_ints hi, eD.1⟩
  obtain ⟨hn, I'⟩ := laidBut (t' := tk) I hm F'.ns k eD.2.1 fD new
  exact ⟨.ref D, _, I', rfl, q ns' D hp (by simpa using ho) hn⟩
end
end SrK
/-! ## len(set(xs)) of a list of ints, whatever stands twice in it -/
namespace SrK
open PySem PySem.Spec PyProof.Rows L2
theorem fm_le (val : Nat → Int) (i : Nat) : (firstMet val i).length ≤ i := firstMet_length_le val i
theorem fm_all (val : Nat → Int) : ∀ i, (firstMet val i).length = i → firstMet val i = (List.range i).map val
  | 0, _ => rfl
  | i + 1, h => by
    have z := fm_le val i
    rw [firstMet_succ] at h ⊢
    unfold step_dedup at h ⊢
    split at h
    · omega
    · rename_i c
      rw [if_neg c, fm_all val i (by simpa using h), List.range_succ, List.map_append]
      rfl
theorem fm_once (val : Nat → Int) : ∀ i, (firstMet val i).Nodup
  | 0 => List.Pairwise.nil
  | i + 1 => by
    have z := fm_once val i
    rw [firstMet_succ]
    unfold step_dedup
    split
    · exact z
    · rename_i c
      refine List.nodup_append.mpr ⟨z, by simp, fun x hx y hy e => c ?_⟩
      rw [List.mem_singleton] at hy
      subst hy e
      exact List.any_eq_true.mpr ⟨_, hx, by simp⟩
theorem fm_nodup (val : Nat → Int) : ∀ i, ((List.range i).map val).Nodup → firstMet val i = (List.range i).map val
  | 0, _ => rfl
  | i + 1, h => by
    rw [List.range_succ, List.map_append] at h ⊢
    obtain ⟨h1, _, h3⟩ := List.nodup_append.mp h
    rw [firstMet_succ, fm_nodup val i h1]
    unfold step_dedup
    rw [if_neg fun c => ?_]
    · rfl
    · obtain ⟨y, hy, e⟩ := List.any_eq_true.mp c
      exact h3 y hy (val i) (by simp) (eq_of_beq e)
theorem fm_list (ns : List Int) : (List.range ns.length).map (fun i => ns.getD i 0) = ns := by
  apply List.ext_getElem
  · simp
  · intro i h1 h2
    simp [List.getD_eq_getElem?_getD, h2]
theorem fm_len (ns : List Int) : (firstMet (fun i => ns.getD i 0) ns.length).length = ns.length ↔ ns.Nodup := by
  constructor
  · intro h
    have z := fm_all _ _ h
    rw [fm_list] at z
    rw [← z]
    exact fm_once _ _
  · intro h
    rw [fm_nodup _ _ (by rw [fm_list]; exact h), fm_list]
/-- how many unlike ones: all of them just where none stands twice -/
def tLenG (K : PySem.W.Frag) (ta : TE) : TE := fun σ H Q => ta σ H fun x H1 => ∃ (l : Addr) (ns : List Int), x = .ref l ∧ SqL K H1 l (ns.map V.int) ∧ ns.length ≤ 1000 ∧ ∀ n : Nat, (n = ns.length ↔ ns.Nodup) → Q (.int n) H1
theorem pe_lenG {X : Cx} {e : Expr} {te : TE} {p1 p2 p3 p4 : Pos} (gl : Gl X "len") (ml : X.mg "len" = none) (gs : Gl X "set") (ms : X.mg "set" = none) (he : PE X e te) (hc : X.calm = true := by rfl)
    (na : starEach [e] X.env = (false, eval e X.env) :: starEach [] X.env := by rfl) : PE X (.Call (.Name "len" p1) [.Call (.Name "set" p2) [e] [] p3] [] p4) (tLenG X.K te) := by
  constructor
  intro pins s σ H Q I h
  refine Call_ (ld_blt I gl ml PySem.boot_len (PyProof.Rows.callWith_builtin1 (PyProof.Rows.args_cons ?_ rfl) rfl rfl))
  refine Call_ (ld_blt I gs ms PyProof.Rows.boot_set (PyProof.Rows.callWith_type1 (PyProof.Rows.args_cons (thn (he.run pins s σ H _ I h) ?_) na) na rfl))
  rintro v s1 ⟨x, H1, I1, r1, l, ns, rfl, hq, h1, q⟩
  cases r1
  obtain ⟨its, rv, pl, hz⟩ := I1.list hq
  have hl : its.toArray.size = ns.length := by rw [List.size_toArray, ← rv.length, List.length_map]
  refine PyProof.Rows.args_nil ?_
  refine call_set_list (ns := ns) (I1.ok.hd hc) pl.isList (by simpa using rv.ints) (by rw [hl]; unfold scanBound; omega) fun h' tk hS hk => PyProof.Rows.args_nil ?_
  rw [hl] at hS
  obtain ⟨o, es, ep, t, ho, hex, hd, _, _, _, hf, hn⟩ := hS
  have hle := fm_le (fun i => ns.getD i 0) ns.length
  have I2 : Inv X pins σ H1 { s1 with heap := h', toks := tk } := I1.kept fun b o e => hk b o (Heap.lt_size e) e
  refine call_len_set ho hex hd hf (by rw [hn]; omega) ⟨.int (es.size : Nat), H1, I2.tok _, ⟨_, rfl⟩, q _ ?_⟩
  rw [hn]
  exact fm_len ns
end SrK
namespace Rd
open PySem PySem.Spec PyProof.Rows L2
theorem lenG {σ : L2.St} {H : Hp} {Q : VK} {K : PySem.W.Frag} {ta : TE} (h : ta σ H fun x H1 => ∃ (l : Addr) (ns : List Int), x = .ref l ∧ SqL K H1 l (ns.map V.int) ∧ ns.length ≤ 1000 ∧ ∀ n : Nat, (n = ns.length ↔ ns.Nodup) → Q (.int n) H1) : SrK.tLenG K ta σ H Q := h
theorem srtK {r : List V → List V → Hp → VK → Prop} {t tk : TA} {σ : L2.St} {H : Hp} {Q : VK} (h : t σ H fun vs H1 => tk σ H1 fun zs H2 => r vs zs H2 Q) : tCKw r t tk σ H Q := h
end Rd

/-! ## heaps: what a step leaves -/
def Frm (a : Nat) (H H' : L2.Hp) : Prop := ∀ b o, H b = some o → b ≠ a → H' b = some o
section
open PySem L2
variable {H H' H1 H2 : Hp} {a b p : Nat} {o u : HO}
theorem Frm.get (f : Frm a H H') (h : H b = some o) (n : b ≠ a) : H' b = some o := f b o h n
theorem Sget (f : L2.Same H H') (h : H b = some o) : H' b = some o := f b o h
theorem Frm.free (f : Frm a H H') (n : b ≠ a) (h : H' b = none) : H b = none := by
  cases q : H b with
  | none => rfl
  | some o => rw [f b o q n] at h; cases h
theorem Sfree (f : L2.Same H H') (h : H' b = none) : H b = none := L2.Same.free f h
theorem updFree (h : upd H a o b = none) : H b = none := by
  unfold upd at h
  split at h
  · cases h
  · exact h
theorem updGet' (h : H b = some o) (n : b ≠ a) : upd H a u b = some o := by rw [upd_ne n]; exact h
theorem ne_none (h : H b = none) (h' : H a = some o) : a ≠ b := ne_of_none h' h
theorem ne_none' (h : H a = none) (h' : H b = some o) : a ≠ b := (ne_of_none h' h).symm
theorem updFresh (n : H a = none) (h : H b = some o) : upd H a u b = some o := updGet' h (ne_of_none h n)
theorem updMade {x dx : Nat} {v : HO} (n : H x = none) (m : H dx = none) (h : H b = some o) : upd (upd H dx u) x v b = some o := updGet' (updGet' h (ne_of_none h m)) (ne_of_none h n)
theorem Frm.get' (f : Frm a H H') (n : b ≠ a) (h : H b = some o) : H' b = some o := f b o h n
theorem updGet (n : b ≠ a) (h : H b = some o) : upd H a u b = some o := by rw [upd_ne n]; exact h
end

local macro_rules | `(tactic| walk_at "hp") => `(tactic| first
  | with_reducible assumption
  | with_reducible exact L2.upd_same
  | ((with_reducible apply updFresh); (· with_reducible assumption); (· walk_at "hp"))
  | ((with_reducible apply updMade); (· with_reducible assumption); (· with_reducible assumption); (· walk_at "hp"))
  | ((with_reducible apply updGet); (· walk_at "ne"); (· walk_at "hp"))
  | ((with_reducible apply Sget); (· with_reducible assumption); (· walk_at "hp"))
  | ((with_reducible apply Frm.get'); (· with_reducible assumption); (· walk_at "ne"); (· walk_at "hp"))
  | fail "hp")
local macro_rules | `(tactic| walk_at "ne") => `(tactic| first
  | with_reducible assumption
  | exact Ne.symm (by with_reducible assumption)
  | ((with_reducible apply ne_none); (· with_reducible assumption); (· walk_at "hp"))
  | ((with_reducible apply ne_none'); (· with_reducible assumption); (· walk_at "hp"))
  | ((with_reducible apply L2.ne_of); (· walk_at "hp"); (· walk_at "hp"); (· (intro z; cases z)))
  | fail "ne")
local macro_rules | `(tactic| walk_at "vr") => `(tactic| with_unfolding_all rfl)
local macro_rules | `(tactic| walk_at "hpl") => `(tactic| first
  | with_reducible assumption
  | ((with_reducible apply L2.SqL.of); walk_at "hp"))
local macro_rules | `(tactic| walk_at "hpt") => `(tactic| first
  | with_reducible assumption
  | ((with_reducible apply L2.SqT.of); walk_at "hp"))
local macro_rules | `(tactic| walk_at "hpq") => `(tactic| first
  | with_reducible assumption
  | (apply Or.inl; walk_at "hpl")
  | (apply Or.inr; walk_at "hpt"))
local macro_rules | `(tactic| walk_at "sc") => `(tactic| first
  | with_reducible assumption
  | omega
  | decide
  | ((repeat' split) <;> omega))
local macro_rules | `(tactic| walk_at "scp") => `(tactic| (unfold L2.CPow; omega))
local macro_rules | `(tactic| walk_at "ll") => `(tactic| with_unfolding_all exact Nat.le_of_ble_eq_true rfl)
theorem wm {i j : Int} (hi : -(2 ^ 200) < i ∧ i < 2 ^ 200) (hj : -(2 ^ 200) < j ∧ j < 2 ^ 200) : L2.CMulW i j :=
  L2.wide_mul (a := 200) (b := 200) (by omega) (by omega) (by decide) (by decide) (by decide)
theorem wd {i j : Int} (h : 0 < j) (hj : j < 2 ^ 200) : L2.CDivW i j :=
  L2.wide_div (b := 200) h (by omega) (by decide) (by decide)
local macro_rules | `(tactic| walk_at "scm") => `(tactic| exact wm ⟨by walk_at "sc", by walk_at "sc"⟩ ⟨by walk_at "sc", by walk_at "sc"⟩)
local macro_rules | `(tactic| walk_at "scd") => `(tactic| exact wd (by walk_at "sc") (by walk_at "sc"))
local macro_rules | `(tactic| walk_at "clsv") => `(tactic| first | exact L2.ClsV.ty _ | exact L2.ClsV.own _)
local macro_rules | `(tactic| walk_at "kit") => `(tactic| first | with_reducible exact Rd.kit_int_int | with_reducible exact Rd.kit_int_bool | with_reducible exact Rd.kit_bool_bool | with_reducible exact Rd.kit_str_str | with_reducible exact Rd.kit_bool_int | with_reducible exact Rd.kit_str_int | with_reducible exact Rd.kit_none_int | with_reducible exact Rd.kit_tuple_int | with_reducible exact Rd.kit_list_int | with_reducible exact Rd.kit_dict_int | with_reducible exact Rd.kit_str_bool | with_reducible exact Rd.kit_int_str | with_reducible assumption)
local macro_rules | `(tactic| walk_at "nf") => `(tactic| with_reducible assumption)
local macro_rules | `(tactic| walk_at "tyx") => `(tactic| first | exact L2.TyX.base (L2.TyOf.int _) | exact L2.TyX.base (L2.TyOf.bl _) | exact L2.TyX.base L2.TyOf.non | exact L2.TyX.base (L2.TyOf.str _) | ((with_reducible apply Rd.ty_tup); walk_at "hp") | ((with_reducible apply Rd.ty_lst); walk_at "hp"))
local macro_rules | `(tactic| walk_at "frm") => `(tactic| first | (intro b o hb; walk_at "hp") | (intro b o hb hn; walk_at "hp"))
local macro_rules | `(tactic| walk_at "nn") => `(tactic| first
  | with_reducible assumption
  | exact updFree (by with_reducible assumption)
  | exact updFree (updFree (by with_reducible assumption))
  | exact updFree (updFree (updFree (by with_reducible assumption)))
  | exact updFree (updFree (updFree (updFree (by with_reducible assumption))))
  | exact updFree (updFree (updFree (updFree (updFree (by with_reducible assumption)))))
  | exact updFree (updFree (updFree (updFree (updFree (updFree (by with_reducible assumption))))))
  | exact updFree (updFree (updFree (updFree (updFree (updFree (updFree (by with_reducible assumption)))))))
  | exact updFree (updFree (updFree (updFree (updFree (updFree (updFree (updFree (by with_reducible assumption))))))))
  | exact updFree (updFree (updFree (updFree (updFree (updFree (updFree (updFree (updFree (by with_reducible assumption)))))))))
  | exact updFree (updFree (updFree (updFree (updFree (updFree (updFree (updFree (updFree (updFree (by with_reducible assumption))))))))))
  | exact updFree (updFree (updFree (updFree (updFree (updFree (updFree (updFree (updFree (updFree (updFree (by with_reducible assumption)))))))))))
  | exact updFree (updFree (updFree (updFree (updFree (updFree (updFree (updFree (updFree (updFree (updFree (updFree (by with_reducible assumption))))))))))))
  | exact updFree (updFree (updFree (updFree (updFree (updFree (updFree (updFree (updFree (updFree (updFree (updFree (updFree (by with_reducible assumption)))))))))))))
  | exact updFree (updFree (updFree (updFree (updFree (updFree (updFree (updFree (updFree (updFree (updFree (updFree (updFree (updFree (by with_reducible assumption))))))))))))))
  | exact updFree (updFree (updFree (updFree (updFree (updFree (updFree (updFree (updFree (updFree (updFree (updFree (updFree (updFree (updFree (by with_reducible assumption)))))))))))))))
  | exact updFree (updFree (updFree (updFree (updFree (updFree (updFree (updFree (updFree (updFree (updFree (updFree (updFree (updFree (updFree (updFree (by with_reducible assumption))))))))))))))))
  | exact updFree (updFree (updFree (updFree (updFree (updFree (updFree (updFree (updFree (updFree (updFree (updFree (updFree (updFree (updFree (updFree (updFree (by with_reducible assumption)))))))))))))))))
  | exact updFree (updFree (updFree (updFree (updFree (updFree (updFree (updFree (updFree (updFree (updFree (updFree (updFree (updFree (updFree (updFree (updFree (updFree (by with_reducible assumption))))))))))))))))))
  | ((with_reducible apply Sfree); (· with_reducible assumption); (· walk_at "nn")))
local macro_rules | `(tactic| walk_at "em") => `(tactic| first | rfl | (simp only [Int.emod_add_emod, Int.emod_sub_emod, Int.sub_emod_emod, Int.emod_emod]; first | done | rfl | (congr 1; omega)))
local macro_rules | `(tactic| walk_at "dp") => `(tactic| first | ((with_reducible apply Rd.dp_nil); walk_at "hpl") | ((with_reducible apply Rd.dp_listI); walk_at "hpl") | ((with_reducible apply Rd.dp_pair); walk_at "hpt") | ((with_reducible apply L2.Dp.lst); (· walk_at "hpl"); (· walk_at "dpa")) | ((with_reducible apply L2.Dp.tup); (· walk_at "hpt"); (· walk_at "dpa")))
local macro_rules | `(tactic| walk_at "dpt") => `(tactic| first | ((with_reducible apply Rd.dp_pair); (· walk_at "hpt")) | ((with_reducible apply L2.Dp.tup); (· walk_at "hpt"); (· walk_at "dpa")) | fail "dpt")
local macro_rules | `(tactic| walk_at "dpa") => `(tactic| first | with_reducible exact L2.DpAll.nil | ((with_reducible apply L2.DpAll.cons); (· walk_at "dp1"); (· walk_at "dpa")))
local macro_rules | `(tactic| walk_at "dp1") => `(tactic| first | with_reducible exact L2.Dp.int _ | with_reducible exact L2.Dp.bl _ | with_reducible exact L2.Dp.str _ | with_reducible exact L2.Dp.non | walk_at "dp")
local macro_rules | `(tactic| walk_at "shp") => `(tactic| first | with_reducible exact Rd.shaped_pair _ _ | with_reducible exact Rd.shaped_listI _ | with_reducible exact Rd.shaped_nil | (simp only [PySem.SeqAt.shaped, PySem.PyData.canLay0, PySem.PyData.canLayAll0, PySem.PyData.depth, PySem.PyData.depthAll]; rfl))
local macro_rules | `(tactic| walk_at "ty0") => `(tactic| exact Own.ty_int)
local macro_rules | `(tactic| walk_at "sfl") => `(tactic| first | with_unfolding_all exact Nat.le_of_ble_eq_true rfl | ((refine Rd.lput ?_); (repeat refine Rd.lputs ?_); with_unfolding_all exact Nat.le_of_ble_eq_true rfl))
local macro_rules | `(tactic| walk_at "ixn") => `(tactic| first | with_unfolding_all rfl | decide)
local macro_rules | `(tactic| walk_at "bT") => `(tactic| first | (simp only [PySem.PyData.eqv, PySem.PyData.eqvAll, beq_self_eq_true, Bool.and_self]; done) | (exact decide_eq_true rfl) | (simp only [L2.V.int.injEq, L2.V.bl.injEq, decide_eq_true_eq]; omega) | with_unfolding_all rfl | with_reducible assumption | exact decide_eq_true (by walk_at "sc"))
local macro_rules | `(tactic| walk_at "bF") => `(tactic| first | (simp only [← Int.sub_emod, decide_true, Bool.not_true]; done) | (simp only [L2.V.int.injEq, Int.emod_eq_emod_iff_emod_sub_eq_zero, eq_self, decide_true, Bool.true_and, Bool.not_true]; done) | (simp only [Rd.eqv_pairV, Rd.eqv_listI, Rd.eqv_nil, Bool.and_self, Bool.not_true, decide_true]; done) | with_unfolding_all rfl | with_reducible assumption | exact decide_eq_false (by walk_at "sc") | (simp only [L2.V.int.injEq, L2.V.bl.injEq, decide_eq_false_iff_not, Bool.not_eq_false', Bool.not_eq_eq_eq_not, Bool.not_false, decide_eq_true_eq]; omega) | (simp only [L2.V.int.injEq, Bool.and_eq_false_iff, decide_eq_false_iff_not]; first | omega | exact Or.inl (by omega)))

/-! ## the law's source of numbers: two ints in a list -/
section
open PySem L2
/-- what stands in the list -/
def SrcO (o : HO) : Prop := ∃ x y : Int, o = .lst [.int x, .int y] ∧ 0 ≤ x ∧ 0 ≤ y ∧ y < 2147483647
/-- a draw -/
abbrev spDraw : Sp := fun vs H Q _ => ∃ (a : Addr) (o : HO) (m : Int), vs = [.ref a, .int m] ∧ H a = some o ∧ SrcO o ∧ 0 < m ∧ m < 2 ^ 190 ∧
  ∀ (d : Int) (o' : HO), 0 ≤ d → d < m → SrcO o' → Q (.int d) (upd H a o')
/-- a fresh source -/
abbrev spSource (K : PySem.W.Frag) : Sp := fun vs H Q _ => ∃ (a : Addr) (ns : List Int) (t : Int), vs = [.ref a, .int t] ∧ SqL K H a (ns.map V.int) ∧ 0 ≤ t ∧ t < 1000000 ∧
  ∀ (p : Addr) (o : HO), H p = none → SrcO o → Q (.ref p) (upd H p o)
theorem sq_nonneg {y : Int} (h : 0 ≤ y) : 0 ≤ y * y := Int.mul_nonneg h h
theorem atI_map {ns : List Int} {t : Int} (h0 : 0 ≤ t) (h : t < (ns.length : Int)) : ∃ z : Int, atI (ns.map V.int) t = some (.int z) := by
  obtain ⟨j, rfl⟩ : ∃ j : Nat, t = (j : Int) := ⟨t.toNat, by omega⟩
  have hj : j < ns.length := by omega
  exact ⟨ns[j], atI_nat (by rw [List.getElem?_map, List.getElem?_eq_getElem hj]; rfl)⟩
/-- an item of a list of ints at a drawn place: what all its items keep -/
theorem pickI {ns : List Int} {P : Int → Prop} (hP : ∀ n ∈ ns, P n) {d : Int} (h0 : 0 ≤ d) (h : d < (ns.length : Int)) : ∃ n : Int, atI (ns.map V.int) d = some (.int n) ∧ P n := by
  obtain ⟨j, rfl⟩ : ∃ j : Nat, d = (j : Int) := ⟨d.toNat, by omega⟩
  have hj : j < ns.length := by omega
  exact ⟨ns[j], atI_nat (by rw [List.getElem?_map, List.getElem?_eq_getElem hj]; rfl), hP _ (List.getElem_mem hj)⟩
end

/-! ## the head: what the top leaves, looked at in one run -/
namespace Hd
open PySem PySem.Spec PyProof.Rows L2
/-- a def: its place (read off what is looked at), its two names, its text, its defaults -/
structure Df where
  ad : PySem.W.Frag → Addr
  nm : Str
  ql : Str
  st : Stmt
  dv : List V
  kw : List (Str × V)
def Df.see (K : PySem.W.Frag) (d : Df) : He.FnW := match K.lookup (d.ad K) with
  | some ⟨_, _, .func z, _⟩ => some (z.name, z.qualname, z.params, z.body, z.scope, z.globals, z.closure, z.builtins)
  | _ => none
def Df.due (d : Df) : He.FnW := some (d.nm, d.ql, defArgs d.st, .stmts (defBody d.st), defScope d.st, mainGlobals, [], builtinsNs)
def Df.good (K : PySem.W.Frag) (d : Df) : Bool := (match K.lookup (d.ad K) with
  | some ⟨_, _, .func z, _⟩ => (He.dflB K z.defaults d.dv && He.kwdB K z.kwdefaults d.kw) && PySem.W.codeIn K z.code d.ql
  | _ => false) && PySem.W.keepIn K (.ref (d.ad K))
theorem Df.fn {K : PySem.W.Frag} {d : Df} (s : d.see K = d.due) (g : d.good K = true) : ∃ fd, FunD K d.nm d.ql (defArgs d.st) (defBody d.st) (defScope d.st) d.dv d.kw (d.ad K) fd := by
  obtain ⟨g1, g2⟩ := He.ba g
  unfold Df.see at s
  cases e : K.lookup (d.ad K) with
  | none => simp only [e] at g1; cases g1
  | some o =>
    obtain ⟨c, dd, dt, sl⟩ := o
    cases dt with
    | func z =>
      simp only [e] at g1 s
      obtain ⟨g3, g4⟩ := He.ba g1
      obtain ⟨g5, g6⟩ := He.ba g3
      obtain ⟨a1, a2, a3, a4, a5, a6, a7, a8, a9, a10, a11, a12, a13, a14, a15⟩ := z
      simp only [Df.due, Option.some.injEq, Prod.mk.injEq] at s
      obtain ⟨h1, h2, h3, h4, h5, h6, h7, h8⟩ := s
      subst h1 h2 h3 h4 h5 h6 h7 h8
      exact ⟨_, ⟨c, dd, a8, a9, a10, a11, a12, a13, a14, sl, rfl, e, g4, He.dflB_ok g5, He.kwdB_ok g6⟩, g2⟩
    | _ => simp only [e] at g1; cases g1
theorem plain {K : PySem.W.Frag} {x q : Str} {st : Stmt} {f : Addr} {fd : FuncData} (F : FunD K x q (defArgs st) (defBody st) (defScope st) [] [] f fd) : Fun K x q st f fd := by
  obtain ⟨⟨oc, od, dV, kV, doc, pm, an, cdv, ct, sl, e, l, c, hd, _⟩, kp⟩ := F
  rcases hd with ⟨_, z⟩ | ⟨z, _⟩
  · subst z; exact ⟨⟨oc, od, kV, doc, pm, an, cdv, ct, sl, e, l, c⟩, kp⟩
  · exact absurd rfl z
/-! what objects name, layer by layer: no code objects, no classes' bases -/
def refs (o : Obj) : List Addr := match o.cls with
  | .type "code" => []
  | _ => match o.data with
    | .seq its _ => its.toList.flatMap He.refV
    | .dict es _ => es.toList.flatMap fun e => He.refV e.val
    | .func z => He.refV z.code ++ (He.refV z.defaults ++ He.refV z.kwdefaults)
    | .cls c => [c.ns]
    | .fields vs => vs.toList.flatMap He.refV
    | _ => []
def nxt (g : Addr → Option Obj) (l : List Addr) : List Addr := l.flatMap fun a => match g a with
  | some o => refs o
  | none => []
def layers (g : Addr → Option Obj) : Nat → List Addr → List Addr
  | 0, l => l
  | n + 1, l => l ++ layers g n (nxt g l)
def part (n : Nat) (g : Addr → Option Obj) : PySem.W.Frag := He.frG g (layers g n [mainGlobals])
/-- the part, its spine and addresses computed ahead of what follows -/
def pin {α : Type} : PySem.W.Frag → (PySem.W.Frag → α) → α
  | [], k => k []
  | (a, o) :: r, k => HandSHeadRun.frNat a fun a => pin r fun r => k ((a, o) :: r)
theorem pin_eq {α : Type} : ∀ (l : PySem.W.Frag) (k : PySem.W.Frag → α), pin l k = k l
  | [], _ => rfl
  | (a, o) :: r, k => by
    show HandSHeadRun.frNat a (fun a => pin r fun r => k ((a, o) :: r)) = _
    rw [HandSHeadRun.frNat_eq, pin_eq r]
abbrev Al : Type := Bool × List He.FnW × List (Option (List (Option (Str × Int))))
def tell (fn : List Df) (ts : List He.Tab) (ex : PySem.W.Frag → Bool) (K : PySem.W.Frag) : Al := (ex K && fn.all fun d => d.good K, fn.map fun d => d.see K, ts.map fun t => He.dicW K (t.1 K))
def told (fn : List Df) (ts : List He.Tab) (w : World) : Al := (true, fn.map Df.due, ts.map fun t => some (He.keysIn w.params t.2))
def hook (n : Nat) (fn : List Df) (ts : List He.Tab) (ex : PySem.W.Frag → Bool) : PySem.W.Hook where
  α := Al
  obs := fun s => tell fn ts ex (part n s.heap.get?)
  val := fun w => told fn ts w
  says := fun w h => ∃ K : PySem.W.Frag, K.In h ∧ tell fn ts ex K = told fn ts w
  of := fun _ _ e => ⟨_, He.frG_in, e⟩
  keeps := fun _ _ _ ⟨K, hK, c⟩ k => ⟨K, PySem.W.Frag.In.keeps hK k, c⟩
def ob (n : Nat) (fn : List Df) (ts : List He.Tab) (ex : PySem.W.Frag → Bool) (s : PySem.W.SharedT) : Al := pin (part n (HandSHeadRun.getT s)) (tell fn ts ex)
theorem ob_eq {n : Nat} {fn : List Df} {ts : List He.Tab} {ex : PySem.W.Frag → Bool} (s : PySem.W.SharedT) : ob n fn ts ex s = (hook n fn ts ex).obs s.abs := by
  have e : HandSHeadRun.getT s = s.abs.heap.get? := funext (HandSHeadRun.getT_eq s)
  unfold ob
  rw [pin_eq, e]
  rfl
section
variable {fn : List Df} {ts : List He.Tab} {ex : PySem.W.Frag → Bool} {w : World} {K : PySem.W.Frag}
theorem exOf (c : tell fn ts ex K = told fn ts w) : ex K = true := (He.ba (congrArg (fun z : Al => z.1) c)).1
theorem fnOf (c : tell fn ts ex K = told fn ts w) (i : Nat) {d : Df} (h : fn[i]? = some d) : ∃ fd, FunD K d.nm d.ql (defArgs d.st) (defBody d.st) (defScope d.st) d.dv d.kw (d.ad K) fd := by
  have c2 := (He.ba (show (ex K && fn.all fun d => d.good K) = true from congrArg (fun z : Al => z.1) c)).2
  have e : fn.map (fun d => d.see K) = fn.map Df.due := congrArg (fun z : Al => z.2.1) c
  have e2 := congrArg (fun l : List He.FnW => l[i]?) e
  simp only [List.getElem?_map, h, Option.map_some, Option.some.injEq] at e2
  exact Df.fn e2 (List.all_eq_true.mp c2 d (List.mem_of_getElem? h))
theorem tabOf (c : tell fn ts ex K = told fn ts w) (i : Nat) {t : He.Tab} (h : ts[i]? = some t) : ∃ es n, KDict K w (t.1 K) es n := by
  have e : ts.map (fun t => He.dicW K (t.1 K)) = ts.map fun t => some (He.keysIn w.params t.2) := congrArg (fun z : Al => z.2.2) c
  have e2 := congrArg (fun l : List (Option (List (Option (Str × Int)))) => l[i]?) e
  simp only [List.getElem?_map, h, Option.map_some, Option.some.injEq] at e2
  exact He.dicW_ok e2
end
/-! addresses and values off what is looked at -/
def adr (o : Option (Option Value)) : Addr := match o with
  | some (some (.ref a)) => a
  | _ => 0
def opt (o : Option (Option Value)) : Option Value := match o with
  | some v => v
  | none => none
def tok (o : Option (Option Value)) : Tok := match o with
  | some (some (.int _ t)) => t
  | some (some (.str _ t)) => t
  | _ => 0
def rec1 (o : Option (List Value)) : Addr := match o with
  | some (.ref a :: _) => a
  | _ => 0
def recR (o : Option (List Value)) : List Value := match o with
  | some (_ :: r) => r
  | _ => []
def stA (o : Option PySem.W.CFound) : Addr := match o with
  | some (.get _ (.ref a) _ _) => a
  | _ => 0
def stB (o : Option PySem.W.CFound) (C : Addr) : Bool := match o with
  | some (.get (.builtin b) (.ref _) .none (.ref c)) => decide (b = "staticmethod.__get__") && decide (c = C)
  | _ => false
theorem stB_ok {o : Option PySem.W.CFound} {C : Addr} (h : stB o C = true) : o = some (.get (.builtin "staticmethod.__get__") (.ref (stA o)) .none (.ref C)) := by
  unfold stB at h
  split at h
  · obtain ⟨h1, h2⟩ := He.ba h
    rw [of_decide_eq_true h1, of_decide_eq_true h2]
    rfl
  · cases h
def tupB (K : PySem.W.Frag) (a : Addr) (vs : List V) : Bool := match K.lookup a with
  | some ⟨.type c, _, .seq its _, _⟩ => decide (c = "tuple") && (decide (its.size ≤ sizeLine) && He.relAll vs its.toList)
  | _ => false
theorem tupB_ok {K : PySem.W.Frag} {a : Addr} {vs : List V} (h : tupB K a vs = true) : ∀ H : Hp, SqT K H a vs := by
  intro H
  unfold tupB at h
  split at h
  · rename_i c d its n sl e
    obtain ⟨h1, h2⟩ := He.ba h
    obtain ⟨h3, h4⟩ := He.ba h2
    exact .inr ⟨_, its, n, e, congrArg Value.type (of_decide_eq_true h1), rfl, of_decide_eq_true h3, He.relAll_ok h4⟩
  · cases h
def noR (o : Option Value) : Bool := match o with
  | none => true
  | some (.ref _) => true
  | _ => false
theorem noR_ok {o : Option Value} (h : noR o = true) : o = none ∨ ∃ g : Addr, o = some (.ref g) := by
  unfold noR at h
  split at h
  · exact .inl rfl
  · exact .inr ⟨_, rfl⟩
  · cases h
end Hd

namespace Pk24
open PySem L2
def top (i : Nat) : Stmt := PySem.Challenge.pw_ringindexes_k24_windows_tried.main.body.getD i (.Pass ⟨0, 0, 0, 0⟩)
abbrev s_has_outside : Stmt := top 2
abbrev s_mask_of : Stmt := top 9
abbrev s_steps_to_bits : Stmt := top 10
abbrev s_mask_gaps : Stmt := top 7
abbrev s_off_spans : Stmt := top 5
abbrev s_rest_spans : Stmt := top 4
abbrev s_steps_to_span : Stmt := top 6
abbrev s_gaps_from : Stmt := top 3
abbrev s_lowest_bit : Stmt := top 8
abbrev s_is_whole : Stmt := top 19
abbrev s_is_whole_from : Stmt := top 20
abbrev s_is_word_of : Stmt := top 21
abbrev s_lesser : Stmt := top 22
abbrev s_is_size : Stmt := top 23
abbrev s_check_size : Stmt := top 24
abbrev s_Formu__initu_ : Stmt := inClass (top 28) 0
abbrev s_form_at : Stmt := top 29
abbrev s_Scheme_wrap : Stmt := inClass (top 55) 1
abbrev s_wrap_at : Stmt := top 39
abbrev s_modulus_of : Stmt := top 38
abbrev s_Scheme_slot : Stmt := inClass (top 55) 3
abbrev s_window_at : Stmt := top 42
abbrev s_window_of : Stmt := top 41
abbrev s_alike_of : Stmt := top 43
abbrev s_is_small_form : Stmt := top 60
abbrev s_is_full : Stmt := top 61
abbrev s_is_wrap : Stmt := top 59
abbrev s_is_part : Stmt := top 58
abbrev s_first_wrong : Stmt := top 57
abbrev s_Schemeu__initu_ : Stmt := inClass (top 55) 0
abbrev s_l_source : Stmt := top 69
abbrev s_l_draw : Stmt := top 70
abbrev s_l_pick : Stmt := top 71
abbrev s_l_limit : Stmt := top 72
abbrev s_l_parts : Stmt := top 73
abbrev s_l_wrap : Stmt := top 74
abbrev s_l_rule : Stmt := top 75
abbrev s_l_scheme : Stmt := top 76
abbrev s_l_modulus : Stmt := top 77
abbrev s_l_slot : Stmt := top 78
abbrev s_l_gap : Stmt := top 79
abbrev s_l_unlike : Stmt := top 80
abbrev s_law : Stmt := top 81
theorem q_parts_base : ¬ (("_parts" : Str) = "base") := by decide +kernel
theorem q_parts_slope : ¬ (("_parts" : Str) = "slope") := by decide +kernel
theorem q_base_parts : ¬ (("base" : Str) = "_parts") := by decide +kernel
theorem q_base_slope : ¬ (("base" : Str) = "slope") := by decide +kernel
theorem q_slope_parts : ¬ (("slope" : Str) = "_parts") := by decide +kernel
theorem q_slope_base : ¬ (("slope" : Str) = "base") := by decide +kernel
local macro_rules | `(tactic| walk_at "lk") => `(tactic| first | with_unfolding_all rfl | (simp only [List.lookup, L2.putF, beq_iff_eq, beq_self_eq_true, q_parts_base, (beq_eq_false_iff_ne.mpr q_parts_base), q_parts_slope, (beq_eq_false_iff_ne.mpr q_parts_slope), q_base_parts, (beq_eq_false_iff_ne.mpr q_base_parts), q_base_slope, (beq_eq_false_iff_ne.mpr q_base_slope), q_slope_parts, (beq_eq_false_iff_ne.mpr q_slope_parts), q_slope_base, (beq_eq_false_iff_ne.mpr q_slope_base)]; first | done | rfl))
structure Adr where
  f_has_outside : Addr
  d_has_outside : FuncData
  f_mask_of : Addr
  d_mask_of : FuncData
  f_steps_to_bits : Addr
  d_steps_to_bits : FuncData
  f_mask_gaps : Addr
  d_mask_gaps : FuncData
  f_off_spans : Addr
  d_off_spans : FuncData
  f_rest_spans : Addr
  d_rest_spans : FuncData
  f_steps_to_span : Addr
  d_steps_to_span : FuncData
  f_gaps_from : Addr
  d_gaps_from : FuncData
  f_lowest_bit : Addr
  d_lowest_bit : FuncData
  f_is_whole : Addr
  d_is_whole : FuncData
  f_is_whole_from : Addr
  d_is_whole_from : FuncData
  f_is_word_of : Addr
  d_is_word_of : FuncData
  f_lesser : Addr
  d_lesser : FuncData
  f_is_size : Addr
  d_is_size : FuncData
  f_check_size : Addr
  d_check_size : FuncData
  f_Formu__initu_ : Addr
  d_Formu__initu_ : FuncData
  f_form_at : Addr
  d_form_at : FuncData
  f_Scheme_wrap : Addr
  d_Scheme_wrap : FuncData
  f_wrap_at : Addr
  d_wrap_at : FuncData
  f_modulus_of : Addr
  d_modulus_of : FuncData
  f_Scheme_slot : Addr
  d_Scheme_slot : FuncData
  f_window_at : Addr
  d_window_at : FuncData
  f_window_of : Addr
  d_window_of : FuncData
  f_alike_of : Addr
  d_alike_of : FuncData
  f_is_small_form : Addr
  d_is_small_form : FuncData
  f_is_full : Addr
  d_is_full : FuncData
  f_is_wrap : Addr
  d_is_wrap : FuncData
  f_is_part : Addr
  d_is_part : FuncData
  f_first_wrong : Addr
  d_first_wrong : FuncData
  f_Schemeu__initu_ : Addr
  d_Schemeu__initu_ : FuncData
  f_l_source : Addr
  d_l_source : FuncData
  f_l_draw : Addr
  d_l_draw : FuncData
  f_l_pick : Addr
  d_l_pick : FuncData
  f_l_limit : Addr
  d_l_limit : FuncData
  f_l_parts : Addr
  d_l_parts : FuncData
  f_l_wrap : Addr
  d_l_wrap : FuncData
  f_l_rule : Addr
  d_l_rule : FuncData
  f_l_scheme : Addr
  d_l_scheme : FuncData
  f_l_modulus : Addr
  d_l_modulus : FuncData
  f_l_slot : Addr
  d_l_slot : FuncData
  f_l_gap : Addr
  d_l_gap : FuncData
  f_l_unlike : Addr
  d_l_unlike : FuncData
  f_law : Addr
  d_law : FuncData
  c_Form : Addr
  c_Scheme : Addr
  p_Scheme_wrap : Addr
  p_Scheme_slot : Addr
  t_GREATEST_SIZE : Tok
  t_PART_NAMES : Addr
  t_PART_WORDS : Addr
  t_PART_WORDS_slot : Addr
  t_PART_WORDS_empty : Addr
  t_PART_WORDS_when : Addr
  t_MEASURES : Addr
  t_SIGNS : Addr
  t_PLAIN_FULLS : Addr
  t_GREATEST_SLOPE : Tok
  t_GREATEST_BASE : Tok
  t_GREATEST_WIDTH : Tok
structure IsC (K : PySem.W.Frag) (C : Addr) : Prop where
  ha : PySem.W.findIn K (.ref C) "__class__" = some (some (.builtin "object.__class__"))
  hn : PySem.W.specialIn K (.builtin "object.__class__") "__get__" = some (some (.builtin "getset_descriptor.__get__"))
  htk : PySem.W.takesIn K (.builtin "object.__class__") = some true
  hm : PySem.W.mroIn K C (.type "object") = some true
theorem ty_own {K : PySem.W.Frag} {H : Hp} {a C dx : Addr} {fs : List (Str × V)} (e : H a = some (.ins C dx fs)) (k : Cls K C) (i : IsC K C) : TyX K H (.ref a) (.ref C) := .base (.ins e k i.ha i.hn i.htk i.hm)
local macro_rules | `(tactic| walk_at "tyx") => `(tactic| first | ((with_reducible apply ty_own); (· walk_at "hp"); (· with_reducible assumption); (· with_reducible assumption)) | fail "tyx")
abbrev R : PySem.W.OpenRow := PySem.W.OpenLaw.row PySem.Challenge.rw_ringindexes_k24_windows_tried
abbrev Px0 (K : PySem.W.Frag) : Prop := (PySem.W.nsIn K mainGlobals "abs" = some none) ∧ (PySem.W.nsIn K mainGlobals "bool" = some none) ∧ (PySem.W.nsIn K mainGlobals "int" = some none) ∧ (PySem.W.nsIn K mainGlobals "isinstance" = some none) ∧ (PySem.W.nsIn K mainGlobals "len" = some none) ∧ (PySem.W.nsIn K mainGlobals "max" = some none) ∧ (PySem.W.nsIn K mainGlobals "min" = some none) ∧ (PySem.W.nsIn K mainGlobals "range" = some none) ∧ (PySem.W.nsIn K mainGlobals "set" = some none) ∧ (PySem.W.nsIn K mainGlobals "sorted" = some none) ∧ (PySem.W.nsIn K mainGlobals "str" = some none) ∧ (PySem.W.nsIn K mainGlobals "tuple" = some none)
abbrev Px1 (K : PySem.W.Frag) : Prop := (PySem.W.nsIn K mainGlobals "GREATEST_SIZE" = some (some (.int (1000000000000000000000000000000) (Hd.tok (PySem.W.nsIn K mainGlobals "GREATEST_SIZE"))))) ∧ (PySem.W.nsIn K mainGlobals "PART_NAMES" = some (some (.ref (He.ga K "PART_NAMES")))) ∧ (PySem.W.nsIn K mainGlobals "PART_WORDS" = some (some (.ref (He.ga K "PART_WORDS")))) ∧ (PySem.W.nsIn K mainGlobals "MEASURES" = some (some (.ref (He.ga K "MEASURES")))) ∧ (PySem.W.nsIn K mainGlobals "SIGNS" = some (some (.ref (He.ga K "SIGNS")))) ∧ (PySem.W.nsIn K mainGlobals "PLAIN_FULLS" = some (some (.ref (He.ga K "PLAIN_FULLS")))) ∧ (PySem.W.nsIn K mainGlobals "GREATEST_SLOPE" = some (some (.int (4) (Hd.tok (PySem.W.nsIn K mainGlobals "GREATEST_SLOPE"))))) ∧ (PySem.W.nsIn K mainGlobals "GREATEST_BASE" = some (some (.int (20) (Hd.tok (PySem.W.nsIn K mainGlobals "GREATEST_BASE"))))) ∧ (PySem.W.nsIn K mainGlobals "GREATEST_WIDTH" = some (some (.int (100) (Hd.tok (PySem.W.nsIn K mainGlobals "GREATEST_WIDTH"))))) ∧ (PySem.W.nsIn K mainGlobals "Form" = some (some (.ref (He.ga K "Form")))) ∧ (PySem.W.findIn K (.ref (He.ga K "Form")) "slope" = some none) ∧ (PySem.W.findIn K (.ref (He.ga K "Form")) "base" = some none)
abbrev Px2 (K : PySem.W.Frag) : Prop := (PySem.W.nsIn K mainGlobals "Scheme" = some (some (.ref (He.ga K "Scheme")))) ∧ (PySem.W.findIn K (.ref (He.ga K "Scheme")) "_parts" = some none) ∧ (PySem.W.nsIn K mainGlobals "has_outside" = some (some (.ref (He.ga K "has_outside")))) ∧ (PySem.W.nsIn K mainGlobals "mask_of" = some (some (.ref (He.ga K "mask_of")))) ∧ (PySem.W.nsIn K mainGlobals "steps_to_bits" = some (some (.ref (He.ga K "steps_to_bits")))) ∧ (PySem.W.nsIn K mainGlobals "mask_gaps" = some (some (.ref (He.ga K "mask_gaps")))) ∧ (PySem.W.nsIn K mainGlobals "off_spans" = some (some (.ref (He.ga K "off_spans")))) ∧ (PySem.W.nsIn K mainGlobals "rest_spans" = some (some (.ref (He.ga K "rest_spans")))) ∧ (PySem.W.nsIn K mainGlobals "steps_to_span" = some (some (.ref (He.ga K "steps_to_span")))) ∧ (PySem.W.nsIn K mainGlobals "gaps_from" = some (some (.ref (He.ga K "gaps_from")))) ∧ (PySem.W.nsIn K mainGlobals "lowest_bit" = some (some (.ref (He.ga K "lowest_bit")))) ∧ (PySem.W.nsIn K mainGlobals "is_whole" = some (some (.ref (He.ga K "is_whole"))))
abbrev Px3 (K : PySem.W.Frag) : Prop := (PySem.W.nsIn K mainGlobals "is_whole_from" = some (some (.ref (He.ga K "is_whole_from")))) ∧ (PySem.W.nsIn K mainGlobals "is_word_of" = some (some (.ref (He.ga K "is_word_of")))) ∧ (PySem.W.nsIn K mainGlobals "lesser" = some (some (.ref (He.ga K "lesser")))) ∧ (PySem.W.nsIn K mainGlobals "is_size" = some (some (.ref (He.ga K "is_size")))) ∧ (PySem.W.nsIn K mainGlobals "check_size" = some (some (.ref (He.ga K "check_size")))) ∧ (PySem.W.nsIn K mainGlobals "form_at" = some (some (.ref (He.ga K "form_at")))) ∧ (PySem.W.nsIn K mainGlobals "wrap_at" = some (some (.ref (He.ga K "wrap_at")))) ∧ (PySem.W.nsIn K mainGlobals "modulus_of" = some (some (.ref (He.ga K "modulus_of")))) ∧ (PySem.W.nsIn K mainGlobals "window_at" = some (some (.ref (He.ga K "window_at")))) ∧ (PySem.W.nsIn K mainGlobals "window_of" = some (some (.ref (He.ga K "window_of")))) ∧ (PySem.W.nsIn K mainGlobals "alike_of" = some (some (.ref (He.ga K "alike_of")))) ∧ (PySem.W.nsIn K mainGlobals "is_small_form" = some (some (.ref (He.ga K "is_small_form"))))
abbrev Px4 (K : PySem.W.Frag) : Prop := (PySem.W.nsIn K mainGlobals "is_full" = some (some (.ref (He.ga K "is_full")))) ∧ (PySem.W.nsIn K mainGlobals "is_wrap" = some (some (.ref (He.ga K "is_wrap")))) ∧ (PySem.W.nsIn K mainGlobals "is_part" = some (some (.ref (He.ga K "is_part")))) ∧ (PySem.W.nsIn K mainGlobals "first_wrong" = some (some (.ref (He.ga K "first_wrong")))) ∧ (PySem.W.nsIn K mainGlobals "_law_source" = some (some (.ref (He.ga K "_law_source")))) ∧ (PySem.W.nsIn K mainGlobals "_law_draw" = some (some (.ref (He.ga K "_law_draw")))) ∧ (PySem.W.nsIn K mainGlobals "_law_pick" = some (some (.ref (He.ga K "_law_pick")))) ∧ (PySem.W.nsIn K mainGlobals "_law_limit" = some (some (.ref (He.ga K "_law_limit")))) ∧ (PySem.W.nsIn K mainGlobals "_law_parts" = some (some (.ref (He.ga K "_law_parts")))) ∧ (PySem.W.nsIn K mainGlobals "_law_wrap" = some (some (.ref (He.ga K "_law_wrap")))) ∧ (PySem.W.nsIn K mainGlobals "_law_rule" = some (some (.ref (He.ga K "_law_rule")))) ∧ (PySem.W.nsIn K mainGlobals "_law_scheme" = some (some (.ref (He.ga K "_law_scheme"))))
abbrev Px5 (K : PySem.W.Frag) : Prop := (PySem.W.nsIn K mainGlobals "_law_modulus" = some (some (.ref (He.ga K "_law_modulus")))) ∧ (PySem.W.nsIn K mainGlobals "_law_slot" = some (some (.ref (He.ga K "_law_slot")))) ∧ (PySem.W.nsIn K mainGlobals "_law_gap" = some (some (.ref (He.ga K "_law_gap")))) ∧ (PySem.W.nsIn K mainGlobals "_law_unlike" = some (some (.ref (He.ga K "_law_unlike")))) ∧ (PySem.W.nsIn K mainGlobals "law" = some (some (.ref (He.ga K "law")))) ∧ (PySem.W.findIn K (.ref (He.ga K "Form")) "__init__" = some (some (.ref (He.ma K (He.ga K "Form") "__init__")))) ∧ (PySem.W.findIn K (.ref (He.ga K "Scheme")) "__init__" = some (some (.ref (He.ma K (He.ga K "Scheme") "__init__")))) ∧ (PySem.W.findIn K (.ref (He.ga K "Scheme")) "wrap" = some (some (.ref (He.ma K (He.ga K "Scheme") "wrap")))) ∧ (PySem.W.findIn K (.ref (He.ga K "Scheme")) "slot" = some (some (.ref (He.ma K (He.ga K "Scheme") "slot")))) ∧ (PySem.W.nsIn K (He.ga K "PART_WORDS") "slot" = some (some (.ref (Hd.adr (PySem.W.nsIn K (He.ga K "PART_WORDS") "slot"))))) ∧ (PySem.W.nsIn K (He.ga K "PART_WORDS") "empty" = some (some (.ref (Hd.adr (PySem.W.nsIn K (He.ga K "PART_WORDS") "empty"))))) ∧ (PySem.W.nsIn K (He.ga K "PART_WORDS") "when" = some (some (.ref (Hd.adr (PySem.W.nsIn K (He.ga K "PART_WORDS") "when")))))
abbrev Px6 (K : PySem.W.Frag) : Prop := (PySem.W.recIn K (He.ma K (He.ga K "Scheme") "wrap") "property" = some (.ref (Hd.rec1 (PySem.W.recIn K (He.ma K (He.ga K "Scheme") "wrap") "property")) :: (Hd.recR (PySem.W.recIn K (He.ma K (He.ga K "Scheme") "wrap") "property")))) ∧ (PySem.W.recIn K (He.ma K (He.ga K "Scheme") "slot") "property" = some (.ref (Hd.rec1 (PySem.W.recIn K (He.ma K (He.ga K "Scheme") "slot") "property")) :: (Hd.recR (PySem.W.recIn K (He.ma K (He.ga K "Scheme") "slot") "property")))) ∧ (Hd.tupB K (He.ga K "PART_NAMES") [.str "wrap", .str "slot", .str "empty", .str "full", .str "when"] = true) ∧ (Hd.tupB K (Hd.adr (PySem.W.nsIn K (He.ga K "PART_WORDS") "slot")) [.str "rest", .str "off", .str "mask"] = true) ∧ (Hd.tupB K (Hd.adr (PySem.W.nsIn K (He.ga K "PART_WORDS") "empty")) [.str "same", .str "count", .str "note"] = true) ∧ (Hd.tupB K (Hd.adr (PySem.W.nsIn K (He.ga K "PART_WORDS") "when")) [.str "refuse", .str "drop", .str "over"] = true) ∧ (Hd.tupB K (He.ga K "MEASURES") [.str "diff", .str "count"] = true) ∧ (Hd.tupB K (He.ga K "SIGNS") [.str "=", .str ">="] = true) ∧ (Hd.tupB K (He.ga K "PLAIN_FULLS") [.str "next", .str "note"] = true) ∧ (PySem.W.plainGet K (He.ga K "Form") Str.empty = true) ∧ (PySem.W.hasDictIn K (He.ga K "Form") = true) ∧ (PySem.W.plainOver K (He.ga K "Form") = true)
abbrev Px7 (K : PySem.W.Frag) : Prop := (PySem.W.findIn K (.ref (He.ga K "Form")) "__setattr__" = some (some (.builtin "object.__setattr__"))) ∧ (PySem.W.makesIn K (He.ga K "Form") = true) ∧ (PySem.W.isFn K (.ref (He.ma K (He.ga K "Form") "__init__")) = true) ∧ (PySem.W.keepIn K (.ref (He.ga K "Form")) = true) ∧ (PySem.W.findIn K (.ref (He.ga K "Form")) "__class__" = some (some (.builtin "object.__class__"))) ∧ (PySem.W.mroIn K (He.ga K "Form") (.type "object") = some true) ∧ (PySem.W.specialIn K (.builtin "object.__class__") "__get__" = some (some (.builtin "getset_descriptor.__get__"))) ∧ (PySem.W.takesIn K (.builtin "object.__class__") = some true) ∧ (PySem.W.kitOne K (.ref (He.ga K "Form")) (.ref (He.ga K "Form")) = some true) ∧ (PySem.W.kitOne K (.type "int") (.ref (He.ga K "Form")) = some false) ∧ (PySem.W.plainGet K (He.ga K "Scheme") Str.empty = true) ∧ (PySem.W.hasDictIn K (He.ga K "Scheme") = true)
abbrev Px8 (K : PySem.W.Frag) : Prop := (PySem.W.plainOver K (He.ga K "Scheme") = true) ∧ (PySem.W.findIn K (.ref (He.ga K "Scheme")) "__setattr__" = some (some (.builtin "object.__setattr__"))) ∧ (PySem.W.makesIn K (He.ga K "Scheme") = true) ∧ (PySem.W.isFn K (.ref (He.ma K (He.ga K "Scheme") "__init__")) = true) ∧ (PySem.W.keepIn K (.ref (He.ga K "Scheme")) = true) ∧ (PySem.W.specialIn K (.ref (He.ma K (He.ga K "Scheme") "wrap")) "__get__" = some (some (.builtin "property.__get__"))) ∧ (PySem.W.takesIn K (.ref (He.ma K (He.ga K "Scheme") "wrap")) = some true) ∧ (PySem.W.specialIn K (.ref (He.ma K (He.ga K "Scheme") "slot")) "__get__" = some (some (.builtin "property.__get__"))) ∧ (PySem.W.takesIn K (.ref (He.ma K (He.ga K "Scheme") "slot")) = some true) ∧ (PySem.W.notFirst K (He.ga K "Form") (.ref (He.ga K "Form")) = true) ∧ (PySem.W.notFirst K (He.ga K "Form") (.type "int") = true)
def exs (K : PySem.W.Frag) : Bool := decide (Px0 K) && (decide (Px1 K) && (decide (Px2 K) && (decide (Px3 K) && (decide (Px4 K) && (decide (Px5 K) && (decide (Px6 K) && (decide (Px7 K) && (decide (Px8 K) && (true)))))))))
def df0 : Hd.Df := ⟨fun K => (He.ga K "has_outside"), "has_outside", "has_outside", s_has_outside, [], []⟩
def df1 : Hd.Df := ⟨fun K => (He.ga K "mask_of"), "mask_of", "mask_of", s_mask_of, [], []⟩
def df2 : Hd.Df := ⟨fun K => (He.ga K "steps_to_bits"), "steps_to_bits", "steps_to_bits", s_steps_to_bits, [], []⟩
def df3 : Hd.Df := ⟨fun K => (He.ga K "mask_gaps"), "mask_gaps", "mask_gaps", s_mask_gaps, [], []⟩
def df4 : Hd.Df := ⟨fun K => (He.ga K "off_spans"), "off_spans", "off_spans", s_off_spans, [], []⟩
def df5 : Hd.Df := ⟨fun K => (He.ga K "rest_spans"), "rest_spans", "rest_spans", s_rest_spans, [], []⟩
def df6 : Hd.Df := ⟨fun K => (He.ga K "steps_to_span"), "steps_to_span", "steps_to_span", s_steps_to_span, [], []⟩
def df7 : Hd.Df := ⟨fun K => (He.ga K "gaps_from"), "gaps_from", "gaps_from", s_gaps_from, [], []⟩
def df8 : Hd.Df := ⟨fun K => (He.ga K "lowest_bit"), "lowest_bit", "lowest_bit", s_lowest_bit, [], []⟩
def df9 : Hd.Df := ⟨fun K => (He.ga K "is_whole"), "is_whole", "is_whole", s_is_whole, [], []⟩
def df10 : Hd.Df := ⟨fun K => (He.ga K "is_whole_from"), "is_whole_from", "is_whole_from", s_is_whole_from, [], []⟩
def df11 : Hd.Df := ⟨fun K => (He.ga K "is_word_of"), "is_word_of", "is_word_of", s_is_word_of, [], []⟩
def df12 : Hd.Df := ⟨fun K => (He.ga K "lesser"), "lesser", "lesser", s_lesser, [], []⟩
def df13 : Hd.Df := ⟨fun K => (He.ga K "is_size"), "is_size", "is_size", s_is_size, [], []⟩
def df14 : Hd.Df := ⟨fun K => (He.ga K "check_size"), "check_size", "check_size", s_check_size, [], []⟩
def df15 : Hd.Df := ⟨fun K => (He.ma K (He.ga K "Form") "__init__"), "__init__", "Form.__init__", s_Formu__initu_, [], []⟩
def df16 : Hd.Df := ⟨fun K => (He.ga K "form_at"), "form_at", "form_at", s_form_at, [], []⟩
def df17 : Hd.Df := ⟨fun K => (Hd.rec1 (PySem.W.recIn K (He.ma K (He.ga K "Scheme") "wrap") "property")), "wrap", "Scheme.wrap", s_Scheme_wrap, [], []⟩
def df18 : Hd.Df := ⟨fun K => (He.ga K "wrap_at"), "wrap_at", "wrap_at", s_wrap_at, [], []⟩
def df19 : Hd.Df := ⟨fun K => (He.ga K "modulus_of"), "modulus_of", "modulus_of", s_modulus_of, [], []⟩
def df20 : Hd.Df := ⟨fun K => (Hd.rec1 (PySem.W.recIn K (He.ma K (He.ga K "Scheme") "slot") "property")), "slot", "Scheme.slot", s_Scheme_slot, [], []⟩
def df21 : Hd.Df := ⟨fun K => (He.ga K "window_at"), "window_at", "window_at", s_window_at, [], []⟩
def df22 : Hd.Df := ⟨fun K => (He.ga K "window_of"), "window_of", "window_of", s_window_of, [], []⟩
def df23 : Hd.Df := ⟨fun K => (He.ga K "alike_of"), "alike_of", "alike_of", s_alike_of, [], []⟩
def df24 : Hd.Df := ⟨fun K => (He.ga K "is_small_form"), "is_small_form", "is_small_form", s_is_small_form, [], []⟩
def df25 : Hd.Df := ⟨fun K => (He.ga K "is_full"), "is_full", "is_full", s_is_full, [], []⟩
def df26 : Hd.Df := ⟨fun K => (He.ga K "is_wrap"), "is_wrap", "is_wrap", s_is_wrap, [], []⟩
def df27 : Hd.Df := ⟨fun K => (He.ga K "is_part"), "is_part", "is_part", s_is_part, [], []⟩
def df28 : Hd.Df := ⟨fun K => (He.ga K "first_wrong"), "first_wrong", "first_wrong", s_first_wrong, [], []⟩
def df29 : Hd.Df := ⟨fun K => (He.ma K (He.ga K "Scheme") "__init__"), "__init__", "Scheme.__init__", s_Schemeu__initu_, [], [("when", .str "refuse")]⟩
def df30 : Hd.Df := ⟨fun K => (He.ga K "_law_source"), "_law_source", "_law_source", s_l_source, [], []⟩
def df31 : Hd.Df := ⟨fun K => (He.ga K "_law_draw"), "_law_draw", "_law_draw", s_l_draw, [], []⟩
def df32 : Hd.Df := ⟨fun K => (He.ga K "_law_pick"), "_law_pick", "_law_pick", s_l_pick, [], []⟩
def df33 : Hd.Df := ⟨fun K => (He.ga K "_law_limit"), "_law_limit", "_law_limit", s_l_limit, [], []⟩
def df34 : Hd.Df := ⟨fun K => (He.ga K "_law_parts"), "_law_parts", "_law_parts", s_l_parts, [], []⟩
def df35 : Hd.Df := ⟨fun K => (He.ga K "_law_wrap"), "_law_wrap", "_law_wrap", s_l_wrap, [], []⟩
def df36 : Hd.Df := ⟨fun K => (He.ga K "_law_rule"), "_law_rule", "_law_rule", s_l_rule, [], []⟩
def df37 : Hd.Df := ⟨fun K => (He.ga K "_law_scheme"), "_law_scheme", "_law_scheme", s_l_scheme, [], []⟩
def df38 : Hd.Df := ⟨fun K => (He.ga K "_law_modulus"), "_law_modulus", "_law_modulus", s_l_modulus, [], []⟩
def df39 : Hd.Df := ⟨fun K => (He.ga K "_law_slot"), "_law_slot", "_law_slot", s_l_slot, [], []⟩
def df40 : Hd.Df := ⟨fun K => (He.ga K "_law_gap"), "_law_gap", "_law_gap", s_l_gap, [], []⟩
def df41 : Hd.Df := ⟨fun K => (He.ga K "_law_unlike"), "_law_unlike", "_law_unlike", s_l_unlike, [], []⟩
def df42 : Hd.Df := ⟨fun K => (He.ga K "law"), "law", "law", s_law, [], []⟩
def fns : List Hd.Df := [df0, df1, df2, df3, df4, df5, df6, df7, df8, df9, df10, df11, df12, df13, df14, df15, df16, df17, df18, df19, df20, df21, df22, df23, df24, df25, df26, df27, df28, df29, df30, df31, df32, df33, df34, df35, df36, df37, df38, df39, df40, df41, df42]
def nm0 : List Str := ["_wall", "has_outside", "gaps_from", "rest_spans", "off_spans", "steps_to_span", "mask_gaps", "lowest_bit", "mask_of", "steps_to_bits", "RingError", "NoForm", "NoSize", "NoRing", "NoScheme", "GREATEST_SIZE", "is_whole", "is_whole_from", "is_word_of", "lesser", "is_size", "check_size", "read_number", "MOST_DIGITS", "Form", "form_at", "as_form", "place_of", "show_form", "show_slope"]
def nm1 : List Str := ["form_of_words", "read_slope", "read_signed", "modulus_of", "wrap_at", "window_of", "window_at", "alike_of", "PART_NAMES", "PART_WORDS", "MEASURES", "SIGNS", "PLAIN_FULLS", "GREATEST_SLOPE", "GREATEST_BASE", "GREATEST_WIDTH", "WIDTH_HEAD", "TEXT_HEADS", "Scheme", "parts_of", "first_wrong", "is_part", "is_wrap", "is_small_form", "is_full", "show_scheme", "show_wrap", "show_full", "scheme_of_text", "read_wrap"]
def nm2 : List Str := ["read_full", "_law_source", "_law_draw", "_law_pick", "_law_limit", "_law_parts", "_law_wrap", "_law_rule", "_law_scheme", "_law_modulus", "_law_slot", "_law_gap", "_law_unlike"]
def loose : List Str := nm0 ++ nm1 ++ nm2
def tbs : List He.Tab := [(fun K => He.ga K "PART_WORDS", ["slot", "empty", "when"])]
abbrev hk : PySem.W.Hook := Hd.hook 6 fns tbs exs
def ob (s : PySem.W.SharedT) : Hd.Al := Hd.ob 6 fns tbs exs s
theorem ob_is (s : PySem.W.SharedT) : ob s = hk.obs s.abs := Hd.ob_eq s
theorem run_false (w : World) : HandSHeadRun.RunEq R (PySem.W.view R.prog [81]) hk ob 200000 loose (w.withFollow "special-get-raises" false) := fun os => by kernel_rfl
theorem run_true (w : World) : HandSHeadRun.RunEq R (PySem.W.view R.prog [81]) hk ob 200000 loose (w.withFollow "special-get-raises" true) := fun os => by kernel_rfl
theorem run (w : World) : HandSHeadRun.RunEq R (PySem.W.view R.prog [81]) hk ob 200000 loose w := PySem.W.byRow2 "special-get-raises" (P := fun w => HandSHeadRun.RunEq R (PySem.W.view R.prog [81]) hk ob 200000 loose w) run_false run_true w
structure Txt (w : World) (K : PySem.W.Frag) (mg : Str → Option Value) (A : Adr) : Prop where
  n_abs : mg "abs" = none
  n_bool : mg "bool" = none
  n_int : mg "int" = none
  n_isinstance : mg "isinstance" = none
  n_len : mg "len" = none
  n_max : mg "max" = none
  n_min : mg "min" = none
  n_range : mg "range" = none
  n_set : mg "set" = none
  n_sorted : mg "sorted" = none
  n_str : mg "str" = none
  n_tuple : mg "tuple" = none
  m_GREATEST_SIZE : mg "GREATEST_SIZE" = some (.int (1000000000000000000000000000000) A.t_GREATEST_SIZE)
  m_PART_NAMES : mg "PART_NAMES" = some (.ref A.t_PART_NAMES)
  q_PART_NAMES : Rd.SqTK K A.t_PART_NAMES [.str "wrap", .str "slot", .str "empty", .str "full", .str "when"]
  m_PART_WORDS : mg "PART_WORDS" = some (.ref A.t_PART_WORDS)
  q_PART_WORDS_slot : Rd.SqTK K A.t_PART_WORDS_slot [.str "rest", .str "off", .str "mask"]
  d_PART_WORDS_slot : KDct K w A.t_PART_WORDS "slot" (.ref A.t_PART_WORDS_slot)
  q_PART_WORDS_empty : Rd.SqTK K A.t_PART_WORDS_empty [.str "same", .str "count", .str "note"]
  d_PART_WORDS_empty : KDct K w A.t_PART_WORDS "empty" (.ref A.t_PART_WORDS_empty)
  q_PART_WORDS_when : Rd.SqTK K A.t_PART_WORDS_when [.str "refuse", .str "drop", .str "over"]
  d_PART_WORDS_when : KDct K w A.t_PART_WORDS "when" (.ref A.t_PART_WORDS_when)
  m_MEASURES : mg "MEASURES" = some (.ref A.t_MEASURES)
  q_MEASURES : Rd.SqTK K A.t_MEASURES [.str "diff", .str "count"]
  m_SIGNS : mg "SIGNS" = some (.ref A.t_SIGNS)
  q_SIGNS : Rd.SqTK K A.t_SIGNS [.str "=", .str ">="]
  m_PLAIN_FULLS : mg "PLAIN_FULLS" = some (.ref A.t_PLAIN_FULLS)
  q_PLAIN_FULLS : Rd.SqTK K A.t_PLAIN_FULLS [.str "next", .str "note"]
  m_GREATEST_SLOPE : mg "GREATEST_SLOPE" = some (.int (4) A.t_GREATEST_SLOPE)
  m_GREATEST_BASE : mg "GREATEST_BASE" = some (.int (20) A.t_GREATEST_BASE)
  m_GREATEST_WIDTH : mg "GREATEST_WIDTH" = some (.int (100) A.t_GREATEST_WIDTH)
  m_Form : mg "Form" = some (.ref A.c_Form)
  k_Form : Cls K A.c_Form
  n_Form_slope : NoAttr K A.c_Form "slope"
  n_Form_base : NoAttr K A.c_Form "base"
  K_Form : Mk K A.c_Form A.f_Formu__initu_
  i_Form : IsC K A.c_Form
  kt_Form_Form : PySem.W.kitOne K (.ref A.c_Form) (.ref A.c_Form) = some true
  kt_int_Form : PySem.W.kitOne K (.type "int") (.ref A.c_Form) = some false
  m_Scheme : mg "Scheme" = some (.ref A.c_Scheme)
  k_Scheme : Cls K A.c_Scheme
  n_Scheme_parts : NoAttr K A.c_Scheme "_parts"
  K_Scheme : Mk K A.c_Scheme A.f_Schemeu__initu_
  m_has_outside : mg "has_outside" = some (.ref A.f_has_outside)
  F_has_outside : Fun K "has_outside" "has_outside" s_has_outside A.f_has_outside A.d_has_outside
  b_has_outside : Binds K A.d_has_outside ["kind", "n", "modulus"] []
  m_mask_of : mg "mask_of" = some (.ref A.f_mask_of)
  F_mask_of : Fun K "mask_of" "mask_of" s_mask_of A.f_mask_of A.d_mask_of
  b_mask_of : Binds K A.d_mask_of ["n", "modulus"] []
  m_steps_to_bits : mg "steps_to_bits" = some (.ref A.f_steps_to_bits)
  F_steps_to_bits : Fun K "steps_to_bits" "steps_to_bits" s_steps_to_bits A.f_steps_to_bits A.d_steps_to_bits
  b_steps_to_bits : Binds K A.d_steps_to_bits ["modulus", "mask", "bits", "c"] []
  m_mask_gaps : mg "mask_gaps" = some (.ref A.f_mask_gaps)
  F_mask_gaps : Fun K "mask_gaps" "mask_gaps" s_mask_gaps A.f_mask_gaps A.d_mask_gaps
  b_mask_gaps : Binds K A.d_mask_gaps ["n", "modulus", "c"] []
  m_off_spans : mg "off_spans" = some (.ref A.f_off_spans)
  F_off_spans : Fun K "off_spans" "off_spans" s_off_spans A.f_off_spans A.d_off_spans
  b_off_spans : Binds K A.d_off_spans ["n", "modulus"] []
  m_rest_spans : mg "rest_spans" = some (.ref A.f_rest_spans)
  F_rest_spans : Fun K "rest_spans" "rest_spans" s_rest_spans A.f_rest_spans A.d_rest_spans
  b_rest_spans : Binds K A.d_rest_spans ["n", "modulus"] []
  m_steps_to_span : mg "steps_to_span" = some (.ref A.f_steps_to_span)
  F_steps_to_span : Fun K "steps_to_span" "steps_to_span" s_steps_to_span A.f_steps_to_span A.d_steps_to_span
  b_steps_to_span : Binds K A.d_steps_to_span ["first", "end", "modulus", "c"] []
  m_gaps_from : mg "gaps_from" = some (.ref A.f_gaps_from)
  F_gaps_from : Fun K "gaps_from" "gaps_from" s_gaps_from A.f_gaps_from A.d_gaps_from
  b_gaps_from : Binds K A.d_gaps_from ["kind", "n", "modulus", "c"] []
  m_lowest_bit : mg "lowest_bit" = some (.ref A.f_lowest_bit)
  F_lowest_bit : Fun K "lowest_bit" "lowest_bit" s_lowest_bit A.f_lowest_bit A.d_lowest_bit
  b_lowest_bit : Binds K A.d_lowest_bit ["n"] []
  m_is_whole : mg "is_whole" = some (.ref A.f_is_whole)
  F_is_whole : Fun K "is_whole" "is_whole" s_is_whole A.f_is_whole A.d_is_whole
  b_is_whole : Binds K A.d_is_whole ["thing"] []
  m_is_whole_from : mg "is_whole_from" = some (.ref A.f_is_whole_from)
  F_is_whole_from : Fun K "is_whole_from" "is_whole_from" s_is_whole_from A.f_is_whole_from A.d_is_whole_from
  b_is_whole_from : Binds K A.d_is_whole_from ["thing", "low", "high"] []
  m_is_word_of : mg "is_word_of" = some (.ref A.f_is_word_of)
  F_is_word_of : Fun K "is_word_of" "is_word_of" s_is_word_of A.f_is_word_of A.d_is_word_of
  b_is_word_of : Binds K A.d_is_word_of ["thing", "words"] []
  m_lesser : mg "lesser" = some (.ref A.f_lesser)
  F_lesser : Fun K "lesser" "lesser" s_lesser A.f_lesser A.d_lesser
  b_lesser : Binds K A.d_lesser ["one", "other"] []
  m_is_size : mg "is_size" = some (.ref A.f_is_size)
  F_is_size : Fun K "is_size" "is_size" s_is_size A.f_is_size A.d_is_size
  b_is_size : Binds K A.d_is_size ["thing"] []
  m_check_size : mg "check_size" = some (.ref A.f_check_size)
  F_check_size : Fun K "check_size" "check_size" s_check_size A.f_check_size A.d_check_size
  b_check_size : Binds K A.d_check_size ["n"] []
  F_Formu__initu_ : Fun K "__init__" "Form.__init__" s_Formu__initu_ A.f_Formu__initu_ A.d_Formu__initu_
  b_Formu__initu_ : Binds K A.d_Formu__initu_ ["self", "slope", "base"] []
  m_form_at : mg "form_at" = some (.ref A.f_form_at)
  F_form_at : Fun K "form_at" "form_at" s_form_at A.f_form_at A.d_form_at
  b_form_at : Binds K A.d_form_at ["form", "n"] []
  F_Scheme_wrap : Fun K "wrap" "Scheme.wrap" s_Scheme_wrap A.f_Scheme_wrap A.d_Scheme_wrap
  b_Scheme_wrap : Binds K A.d_Scheme_wrap ["self"] []
  m_wrap_at : mg "wrap_at" = some (.ref A.f_wrap_at)
  F_wrap_at : Fun K "wrap_at" "wrap_at" s_wrap_at A.f_wrap_at A.d_wrap_at
  b_wrap_at : Binds K A.d_wrap_at ["wrap", "n"] []
  m_modulus_of : mg "modulus_of" = some (.ref A.f_modulus_of)
  F_modulus_of : Fun K "modulus_of" "modulus_of" s_modulus_of A.f_modulus_of A.d_modulus_of
  b_modulus_of : Binds K A.d_modulus_of ["scheme", "n"] []
  F_Scheme_slot : Fun K "slot" "Scheme.slot" s_Scheme_slot A.f_Scheme_slot A.d_Scheme_slot
  b_Scheme_slot : Binds K A.d_Scheme_slot ["self"] []
  m_window_at : mg "window_at" = some (.ref A.f_window_at)
  F_window_at : Fun K "window_at" "window_at" s_window_at A.f_window_at A.d_window_at
  b_window_at : Binds K A.d_window_at ["kind", "n", "modulus"] []
  m_window_of : mg "window_of" = some (.ref A.f_window_of)
  F_window_of : Fun K "window_of" "window_of" s_window_of A.f_window_of A.d_window_of
  b_window_of : Binds K A.d_window_of ["scheme", "n"] []
  m_alike_of : mg "alike_of" = some (.ref A.f_alike_of)
  F_alike_of : Fun K "alike_of" "alike_of" s_alike_of A.f_alike_of A.d_alike_of
  b_alike_of : Binds K A.d_alike_of ["scheme", "n"] []
  m_is_small_form : mg "is_small_form" = some (.ref A.f_is_small_form)
  F_is_small_form : Fun K "is_small_form" "is_small_form" s_is_small_form A.f_is_small_form A.d_is_small_form
  b_is_small_form : Binds K A.d_is_small_form ["thing"] []
  m_is_full : mg "is_full" = some (.ref A.f_is_full)
  F_is_full : Fun K "is_full" "is_full" s_is_full A.f_is_full A.d_is_full
  b_is_full : Binds K A.d_is_full ["thing"] []
  m_is_wrap : mg "is_wrap" = some (.ref A.f_is_wrap)
  F_is_wrap : Fun K "is_wrap" "is_wrap" s_is_wrap A.f_is_wrap A.d_is_wrap
  b_is_wrap : Binds K A.d_is_wrap ["thing"] []
  m_is_part : mg "is_part" = some (.ref A.f_is_part)
  F_is_part : Fun K "is_part" "is_part" s_is_part A.f_is_part A.d_is_part
  b_is_part : Binds K A.d_is_part ["part", "thing"] []
  m_first_wrong : mg "first_wrong" = some (.ref A.f_first_wrong)
  F_first_wrong : Fun K "first_wrong" "first_wrong" s_first_wrong A.f_first_wrong A.d_first_wrong
  b_first_wrong : Binds K A.d_first_wrong ["parts"] []
  F_Schemeu__initu_ : FunD K "__init__" "Scheme.__init__" (defArgs s_Schemeu__initu_) (defBody s_Schemeu__initu_) (defScope s_Schemeu__initu_) [] [("when", .str "refuse")] A.f_Schemeu__initu_ A.d_Schemeu__initu_
  kb_Schemeu__initu_ : ∃ mv : List Value, KBn K A.d_Schemeu__initu_ ["self", "wrap", "slot", "empty", "full", "when"] 1 ["wrap", "slot", "empty", "full", "when"] (fun us ws => us ++ ws) (fun vs zs => vs ++ zs)
  m_l_source : mg "_law_source" = some (.ref A.f_l_source)
  F_l_source : Fun K "_law_source" "_law_source" s_l_source A.f_l_source A.d_l_source
  b_l_source : Binds K A.d_l_source ["_law_script", "_law_turn"] []
  m_l_draw : mg "_law_draw" = some (.ref A.f_l_draw)
  F_l_draw : Fun K "_law_draw" "_law_draw" s_l_draw A.f_l_draw A.d_l_draw
  b_l_draw : Binds K A.d_l_draw ["_law_source_here", "_law_amount"] []
  m_l_pick : mg "_law_pick" = some (.ref A.f_l_pick)
  F_l_pick : Fun K "_law_pick" "_law_pick" s_l_pick A.f_l_pick A.d_l_pick
  b_l_pick : Binds K A.d_l_pick ["_law_source_here", "_law_items"] []
  m_l_limit : mg "_law_limit" = some (.ref A.f_l_limit)
  F_l_limit : Fun K "_law_limit" "_law_limit" s_l_limit A.f_l_limit A.d_l_limit
  b_l_limit : Binds K A.d_l_limit ["_law_source_here"] []
  m_l_parts : mg "_law_parts" = some (.ref A.f_l_parts)
  F_l_parts : Fun K "_law_parts" "_law_parts" s_l_parts A.f_l_parts A.d_l_parts
  b_l_parts : Binds K A.d_l_parts ["_law_source_here", "_law_widest"] []
  m_l_wrap : mg "_law_wrap" = some (.ref A.f_l_wrap)
  F_l_wrap : Fun K "_law_wrap" "_law_wrap" s_l_wrap A.f_l_wrap A.d_l_wrap
  b_l_wrap : Binds K A.d_l_wrap ["_law_turning"] []
  m_l_rule : mg "_law_rule" = some (.ref A.f_l_rule)
  F_l_rule : Fun K "_law_rule" "_law_rule" s_l_rule A.f_l_rule A.d_l_rule
  b_l_rule : Binds K A.d_l_rule ["_law_filled"] []
  m_l_scheme : mg "_law_scheme" = some (.ref A.f_l_scheme)
  F_l_scheme : Fun K "_law_scheme" "_law_scheme" s_l_scheme A.f_l_scheme A.d_l_scheme
  b_l_scheme : Binds K A.d_l_scheme ["_law_parts_here"] []
  m_l_modulus : mg "_law_modulus" = some (.ref A.f_l_modulus)
  F_l_modulus : Fun K "_law_modulus" "_law_modulus" s_l_modulus A.f_l_modulus A.d_l_modulus
  b_l_modulus : Binds K A.d_l_modulus ["_law_turning", "_law_n"] []
  m_l_slot : mg "_law_slot" = some (.ref A.f_l_slot)
  F_l_slot : Fun K "_law_slot" "_law_slot" s_l_slot A.f_l_slot A.d_l_slot
  b_l_slot : Binds K A.d_l_slot ["_law_rule_here", "_law_n", "_law_c"] []
  m_l_gap : mg "_law_gap" = some (.ref A.f_l_gap)
  F_l_gap : Fun K "_law_gap" "_law_gap" s_l_gap A.f_l_gap A.d_l_gap
  b_l_gap : Binds K A.d_l_gap ["_law_slots", "_law_c"] []
  m_l_unlike : mg "_law_unlike" = some (.ref A.f_l_unlike)
  F_l_unlike : Fun K "_law_unlike" "_law_unlike" s_l_unlike A.f_l_unlike A.d_l_unlike
  b_l_unlike : Binds K A.d_l_unlike ["_law_slots", "_law_many"] []
  m_law : mg "law" = some (.ref A.f_law)
  F_law : Fun K "law" "law" s_law A.f_law A.d_law
  b_law : Binds K A.d_law ["_law_script"] []
  R_Scheme_wrap : PropOf K A.c_Scheme "wrap" A.p_Scheme_wrap A.f_Scheme_wrap
  R_Scheme_slot : PropOf K A.c_Scheme "slot" A.p_Scheme_slot A.f_Scheme_slot
  nf_Form_Form : PySem.W.notFirst K A.c_Form (.ref A.c_Form) = true
  nf_int_Form : PySem.W.notFirst K A.c_Form (.type "int") = true

/-- a form's fields -/
def fF (s b : Int) : List (Str × V) := [("slope", .int s), ("base", .int b)]
theorem fF_slope (s b : Int) : (fF s b).lookup ("slope" : Str) = some (V.int s) := by unfold fF; walk_at "lk"
theorem fF_base (s b : Int) : (fF s b).lookup ("base" : Str) = some (V.int b) := by unfold fF; walk_at "lk"
theorem fF_put (s b : Int) : putF "base" (.int b) (putF "slope" (.int s) []) = fF s b := by
  show (if ("slope" : Str) = "base" then _ else (("slope" : Str), V.int s) :: putF "base" (V.int b) []) = _
  rw [if_neg q_slope_base] <;> rfl
local macro_rules | `(tactic| walk_at "lk") => `(tactic| first | exact fF_slope _ _ | exact fF_base _ _)
def Form (A : Adr) (H : Hp) (p : Addr) (s b : Int) : Prop := ∃ dx, H p = some (.ins A.c_Form dx (fF s b))
/-- what may stand beside a form: a form, or an int -/
def ArgF (A : Adr) (H : Hp) (y : V) (c d : Int) : Prop := (∃ q dq, y = .ref q ∧ H q = some (.ins A.c_Form dq (fF c d))) ∨ (c = 0 ∧ y = .int d)
local macro_rules | `(tactic| walk_at "argf") => `(tactic| first | with_reducible assumption | exact Or.inl ⟨_, _, rfl, by walk_at "hp"⟩ | exact Or.inr ⟨rfl, rfl⟩)

local macro_rules | `(tactic| walk_at "hpt") => `(tactic| first | with_reducible assumption | ((with_reducible apply Rd.SqTK.get); with_reducible assumption) | ((with_reducible apply L2.SqT.of); walk_at "hp") | fail "hpt")
local macro_rules | `(tactic| walk_at "flt") => `(tactic| first | exact Rd.flatW _ | with_unfolding_all rfl | fail "flt")
local macro_rules | `(tactic| walk_at "kit") => `(tactic| first | with_reducible assumption | with_reducible exact Rd.kt_int_int | with_reducible exact Rd.kt_int_bool | with_reducible exact Rd.kt_int_str | with_reducible exact Rd.kt_int_tuple | with_reducible exact Rd.kt_int_list | with_reducible exact Rd.kt_int_dict | with_reducible exact Rd.kt_bool_int | with_reducible exact Rd.kt_bool_bool | with_reducible exact Rd.kt_bool_str | with_reducible exact Rd.kt_bool_tuple | with_reducible exact Rd.kt_bool_list | with_reducible exact Rd.kt_bool_dict | with_reducible exact Rd.kt_str_int | with_reducible exact Rd.kt_str_bool | with_reducible exact Rd.kt_str_str | with_reducible exact Rd.kt_str_tuple | with_reducible exact Rd.kt_str_list | with_reducible exact Rd.kt_str_dict | with_reducible exact Rd.kt_NoneType_int | with_reducible exact Rd.kt_NoneType_bool | with_reducible exact Rd.kt_NoneType_str | with_reducible exact Rd.kt_NoneType_tuple | with_reducible exact Rd.kt_NoneType_list | with_reducible exact Rd.kt_NoneType_dict | with_reducible exact Rd.kt_tuple_int | with_reducible exact Rd.kt_tuple_bool | with_reducible exact Rd.kt_tuple_str | with_reducible exact Rd.kt_tuple_tuple | with_reducible exact Rd.kt_tuple_list | with_reducible exact Rd.kt_tuple_dict | with_reducible exact Rd.kt_list_int | with_reducible exact Rd.kt_list_bool | with_reducible exact Rd.kt_list_str | with_reducible exact Rd.kt_list_tuple | with_reducible exact Rd.kt_list_list | with_reducible exact Rd.kt_list_dict | with_reducible exact Rd.kt_dict_int | with_reducible exact Rd.kt_dict_bool | with_reducible exact Rd.kt_dict_str | with_reducible exact Rd.kt_dict_tuple | with_reducible exact Rd.kt_dict_list | with_reducible exact Rd.kt_dict_dict | fail "kit")
local macro_rules | `(tactic| walk_at "sz") => `(tactic| first | exact L2.small1000 (by omega) | exact L2.small1000 (by walk_at "ll") | exact Nat.le_of_lt (L2.small1000 (by walk_at "ll")) | fail "sz")
local macro_rules | `(tactic| walk_at "ll0") => `(tactic| with_unfolding_all exact Nat.lt_of_lt_of_le Nat.zero_lt_one (Nat.le_of_ble_eq_true rfl))
/-- what wraps the counters: a width, or a form -/
inductive Wr where
  | width (w : Int)
  | form (s b : Int)
/-- the test for full -/
inductive Fl where
  | plain (k : Str)
  | lim (k g : Str) (s b : Int)
structure Pt where
  wrap : Wr
  slot : Str
  empty : Str
  full : Fl
  wen : Str
def IsWrap (A : Adr) (H : Hp) (v : V) : Wr → Prop
  | .width w => v = .int w
  | .form s b => ∃ p dx, v = .ref p ∧ H p = some (.ins A.c_Form dx (fF s b))
def IsFull (A : Adr) (H : Hp) (v : V) : Fl → Prop
  | .plain k => ∃ p, v = .ref p ∧ H p = some (.tup [.str k])
  | .lim k g s b => ∃ p q dq, v = .ref p ∧ H p = some (.tup [.str k, .str g, .ref q]) ∧ H q = some (.ins A.c_Form dq (fF s b))
theorem IsWrap.same {A : Adr} {H H' : Hp} {v : V} (S : Same H H') : ∀ {t : Wr}, IsWrap A H v t → IsWrap A H' v t
  | .width _, h => h
  | .form _ _, ⟨p, dx, e, h⟩ => ⟨p, dx, e, S _ _ h⟩
theorem IsFull.same {A : Adr} {H H' : Hp} {v : V} (S : Same H H') : ∀ {t : Fl}, IsFull A H v t → IsFull A H' v t
  | .plain _, ⟨p, e, h⟩ => ⟨p, e, S _ _ h⟩
  | .lim _ _ _ _, ⟨p, q, dq, e, h, g⟩ => ⟨p, q, dq, e, S _ _ h, S _ _ g⟩
def wSlot : List Str := ["rest", "off", "mask"]
def wEmpty : List Str := ["same", "count", "note"]
def wWhen : List Str := ["refuse", "drop", "over"]
def wMeas : List Str := ["diff", "count"]
def wSign : List Str := ["=", ">="]
def wPlain : List Str := ["next", "note"]
def WfW : Wr → Prop
  | .width w => 1 ≤ w ∧ w ≤ 100
  | .form s b => 0 ≤ s ∧ s ≤ 4 ∧ -20 ≤ b ∧ b ≤ 20
def WfF : Fl → Prop
  | .plain k => k ∈ wPlain
  | .lim k g s b => k ∈ wMeas ∧ g ∈ wSign ∧ 0 ≤ s ∧ s ≤ 4 ∧ -20 ≤ b ∧ b ≤ 20
structure Wf (p : Pt) : Prop where
  w : WfW p.wrap
  s : p.slot ∈ wSlot
  e : p.empty ∈ wEmpty
  f : WfF p.full
  n : p.wen ∈ wWhen
  m : ∀ s b, p.wrap = .form s b → p.slot ≠ "mask"
/-- the dict of the parts -/
def kvP (w : V) (s e : Str) (f : V) (n : Str) : List (Key × V) := [(.inr "wrap", w), (.inr "slot", .str s), (.inr "empty", .str e), (.inr "full", f), (.inr "when", .str n)]
theorem kvP_wrap (w : V) (s e : Str) (f : V) (n : Str) : valV (kvP w s e f n) (.inr "wrap") = some w := by with_unfolding_all rfl
theorem kvP_slot (w : V) (s e : Str) (f : V) (n : Str) : valV (kvP w s e f n) (.inr "slot") = some (.str s) := by with_unfolding_all rfl
theorem kvP_empty (w : V) (s e : Str) (f : V) (n : Str) : valV (kvP w s e f n) (.inr "empty") = some (.str e) := by with_unfolding_all rfl
theorem kvP_full (w : V) (s e : Str) (f : V) (n : Str) : valV (kvP w s e f n) (.inr "full") = some f := by with_unfolding_all rfl
theorem kvP_when (w : V) (s e : Str) (f : V) (n : Str) : valV (kvP w s e f n) (.inr "when") = some (.str n) := by with_unfolding_all rfl
theorem kvP_merge (w : V) (s e : Str) (f : V) (n : Str) : mergeK [] [(.inr "wrap", w), (.inr "slot", .str s), (.inr "empty", .str e), (.inr "full", f), (.inr "when", .str n)] = kvP w s e f n := by with_unfolding_all rfl
local macro_rules | `(tactic| walk_at "dl") => `(tactic| first | exact kvP_wrap _ _ _ _ _ | exact kvP_slot _ _ _ _ _ | exact kvP_empty _ _ _ _ _ | exact kvP_full _ _ _ _ _ | exact kvP_when _ _ _ _ _ | fail "dl")
def fS (d : Addr) : List (Str × V) := [("_parts", .ref d)]
theorem fS_p (d : Addr) : (fS d).lookup ("_parts" : Str) = some (V.ref d) := by unfold fS; walk_at "lk"
theorem fS_put (d : Addr) : putF "_parts" (.ref d) [] = fS d := rfl
local macro_rules | `(tactic| walk_at "lk") => `(tactic| exact fS_p _)
def IsScheme (A : Adr) (H : Hp) (p : Addr) (t : Pt) : Prop := ∃ dx d vw vf, H p = some (.ins A.c_Scheme dx (fS d)) ∧ H d = some (.dK (kvP vw t.slot t.empty vf t.wen)) ∧ IsWrap A H vw t.wrap ∧ IsFull A H vf t.full
theorem IsScheme.same {A : Adr} {H H' : Hp} {p : Addr} {t : Pt} (S : Same H H') : IsScheme A H p t → IsScheme A H' p t
  | ⟨dx, d, vw, vf, h1, h2, h3, h4⟩ => ⟨dx, d, vw, vf, S _ _ h1, S _ _ h2, h3.same S, h4.same S⟩
theorem nTrue {p : Prop} [Decidable p] (h : p) : (!decide p) = false := by rw [decide_eq_true h]; rfl
theorem nmask {s : Str} (h : s ≠ "mask") : decide (V.str s = V.str "mask") = false := decide_eq_false fun e => h (V.str.inj e)
local macro_rules | `(tactic| walk_at "bT") => `(tactic| first | with_reducible assumption | with_unfolding_all rfl | exact decide_eq_true (by omega) | exact Rd.inW (by with_reducible assumption) | fail "bT")
local macro_rules | `(tactic| walk_at "bF") => `(tactic| first | with_reducible assumption | with_unfolding_all rfl | exact nTrue (by omega) | (rw [Rd.inW (by with_reducible assumption)]; rfl) | fail "bF")

/-- the drawn parts, as tuples -/
def IsTurn (H : Hp) (v : V) : Wr → Prop
  | .width w => v = .int w
  | .form s b => ∃ p, v = .ref p ∧ H p = some (.tup [.int s, .int b])
def IsFill (H : Hp) (v : V) : Fl → Prop
  | .plain k => ∃ p, v = .ref p ∧ H p = some (.tup [.str k])
  | .lim k g s b => ∃ p q, v = .ref p ∧ H p = some (.tup [.str k, .str g, .ref q]) ∧ H q = some (.tup [.int s, .int b])
theorem IsTurn.same {H H' : Hp} {v : V} (S : Same H H') : ∀ {t : Wr}, IsTurn H v t → IsTurn H' v t
  | .width _, h => h
  | .form _ _, ⟨p, e, h⟩ => ⟨p, e, S _ _ h⟩
theorem IsFill.same {H H' : Hp} {v : V} (S : Same H H') : ∀ {t : Fl}, IsFill H v t → IsFill H' v t
  | .plain _, ⟨p, e, h⟩ => ⟨p, e, S _ _ h⟩
  | .lim _ _ _ _, ⟨p, q, e, h, g⟩ => ⟨p, q, e, S _ _ h, S _ _ g⟩
theorem IsTurn.frm {H H' : Hp} {a : Addr} {x y : Int} {v : V} (F : Frm a H H') (ha : H a = some (.lst [.int x, .int y])) : ∀ {t : Wr}, IsTurn H v t → IsTurn H' v t
  | .width _, h => h
  | .form _ _, ⟨p, e, h⟩ => ⟨p, e, F _ _ h (fun z => by rw [z, ha] at h; cases h)⟩
theorem IsTurn.frmS {H H' : Hp} {a : Addr} {o : HO} {v : V} (F : Frm a H H') (ha : H a = some o) (so : SrcO o) {t : Wr} (h : IsTurn H v t) : IsTurn H' v t := by
  obtain ⟨x, y, rfl, _⟩ := so
  exact h.frm F ha
def IsParts (H : Hp) (v : V) (t : Pt) : Prop := ∃ p vt vf, v = .ref p ∧ H p = some (.tup [vt, .str t.slot, .str t.empty, vf, .str t.wen]) ∧ IsTurn H vt t.wrap ∧ IsFill H vf t.full
theorem IsParts.same {H H' : Hp} {v : V} {t : Pt} (S : Same H H') : IsParts H v t → IsParts H' v t
  | ⟨p, vt, vf, e, h, h1, h2⟩ => ⟨p, vt, vf, e, S _ _ h, h1.same S, h2.same S⟩
/-- a pair of a slope and a base within the bounds -/
def Lim (H : Hp) (v : V) : Prop := ∃ p s b, v = .ref p ∧ H p = some (.tup [.int s, .int b]) ∧ 0 ≤ s ∧ s ≤ 4 ∧ -20 ≤ b ∧ b ≤ 20
theorem Lim.same {H H' : Hp} {v : V} (S : Same H H') : Lim H v → Lim H' v
  | ⟨p, s, b, e, h, g⟩ => ⟨p, s, b, e, S _ _ h, g⟩
theorem IsTurn.keep {H H' : Hp} {v : V} (S : ∀ p xs, H p = some (.tup xs) → H' p = some (.tup xs)) : ∀ {t : Wr}, IsTurn H v t → IsTurn H' v t
  | .width _, h => h
  | .form _ _, ⟨p, e, h⟩ => ⟨p, e, S _ _ h⟩
theorem IsFill.keep {H H' : Hp} {v : V} (S : ∀ p xs, H p = some (.tup xs) → H' p = some (.tup xs)) : ∀ {t : Fl}, IsFill H v t → IsFill H' v t
  | .plain _, ⟨p, e, h⟩ => ⟨p, e, S _ _ h⟩
  | .lim _ _ _ _, ⟨p, q, e, h, g⟩ => ⟨p, q, e, S _ _ h, S _ _ g⟩
theorem Lim.frmS {H H' : Hp} {a : Addr} {o : HO} {v : V} (F : Frm a H H') (ha : H a = some o) (so : SrcO o) : Lim H v → Lim H' v
  | ⟨p, s, b, e, h, g⟩ => ⟨p, s, b, e, F _ _ h (fun z => by obtain ⟨x, y, rfl, _⟩ := so; rw [z, ha] at h; cases h), g⟩

def modV (t : Wr) (n : Int) : Int := match t with
  | .width w => 1 * 2 ^ w.toNat
  | .form s b => s * n + b
/-- the slot of a counter -/
def slotV (k : Str) (n c : Int) : V := if k = "rest" then .int (c % n) else if k = "mask" then .int (Builtin.bitAnd c (n - 1)) else if c < n then .int c else if c < 2 * n then .int (c - n) else .non
theorem slot3 {k : Str} (h : k ∈ wSlot) : k = "rest" ∨ k = "mask" ∨ k = "off" := by
  simp only [wSlot, List.mem_cons, List.not_mem_nil, or_false] at h
  rcases h with h | h | h
  · exact .inl h
  · exact .inr (.inr h)
  · exact .inr (.inl h)
theorem mask_ne_rest : ¬ (("mask" : Str) = "rest") := by decide +kernel
theorem off_ne_rest : ¬ (("off" : Str) = "rest") := by decide +kernel
theorem off_ne_mask : ¬ (("off" : Str) = "mask") := by decide +kernel
theorem slotV_rest (n c : Int) : slotV "rest" n c = .int (c % n) := by unfold slotV; rw [if_pos rfl]
theorem slotV_mask (n c : Int) : slotV "mask" n c = .int (Builtin.bitAnd c (n - 1)) := by unfold slotV; rw [if_neg mask_ne_rest, if_pos rfl]
theorem slotV_off (n c : Int) : slotV "off" n c = if c < n then .int c else if c < 2 * n then .int (c - n) else .non := by unfold slotV; rw [if_neg off_ne_rest, if_neg off_ne_mask]
theorem strEq (x : Str) : decide (V.str x = V.str x) = true := decide_eq_true rfl
theorem strNe {x y : Str} (h : ¬ x = y) : decide (V.str x = V.str y) = false := decide_eq_false fun e => h (V.str.inj e)

/-- g is the gap of the counter c -/
def IsGap (k : Str) (n M c g : Int) : Prop := 1 ≤ g ∧ g ≤ M ∧ slotV k n ((c + g) % M) = slotV k n c ∧ ∀ h, 1 ≤ h → h < g → slotV k n ((c + h) % M) ≠ slotV k n c
theorem IsGap.one {k : Str} {n M c g g' : Int} (a : IsGap k n M c g) (b : IsGap k n M c g') : g = g' := by
  rcases Int.lt_trichotomy g g' with h | h | h
  · exact absurd a.2.2.1 (b.2.2.2 g a.1 h)
  · exact h
  · exact absurd b.2.2.1 (a.2.2.2 g' b.1 h)
theorem slotV_scal (k : Str) (n c s : Int) : scal (slotV k n c) (.int s) = true := by
  unfold slotV
  repeat' split
  all_goals rfl
theorem slotV_int {k : Str} {n c : Int} (h : slotV k n c ≠ .non) : ∃ s, slotV k n c = .int s := by
  unfold slotV at h ⊢
  repeat' split
  all_goals first | exact ⟨_, rfl⟩ | (exfalso; simp_all)
theorem pow_le {i : Nat} (h : i ≤ 100) : (2 : Int) ^ i ≤ 2 ^ 100 := by
  have : (2 : Nat) ^ i ≤ 2 ^ 100 := Nat.pow_le_pow_right (by decide) h
  exact_mod_cast this
theorem pow_pos2 (i : Nat) : (0 : Int) < 2 ^ i := Int.pow_pos (by decide)

def Trips (H : Hp) : List V → List (Int × Int × Int) → Prop
  | [], [] => True
  | v :: vs, t :: ts => (∃ p, v = .ref p ∧ H p = some (.tup [.int t.1, .int t.2.1, .int t.2.2])) ∧ Trips H vs ts
  | _, _ => False
def Prs (H : Hp) : List V → List (Int × Int) → Prop
  | [], [] => True
  | v :: vs, t :: ts => (∃ p, v = .ref p ∧ H p = some (.tup [.int t.1, .int t.2])) ∧ Prs H vs ts
  | _, _ => False
theorem Trips.keep {H H' : Hp} (S : ∀ p xs, H p = some (.tup xs) → H' p = some (.tup xs)) : ∀ {vs : List V} {ts : List (Int × Int × Int)}, Trips H vs ts → Trips H' vs ts
  | [], [], _ => True.intro
  | _ :: _, _ :: _, ⟨⟨p, e, h⟩, r⟩ => ⟨⟨p, e, S _ _ h⟩, r.keep S⟩
theorem Prs.keep {H H' : Hp} (S : ∀ p xs, H p = some (.tup xs) → H' p = some (.tup xs)) : ∀ {vs : List V} {ts : List (Int × Int)}, Prs H vs ts → Prs H' vs ts
  | [], [], _ => True.intro
  | _ :: _, _ :: _, ⟨⟨p, e, h⟩, r⟩ => ⟨⟨p, e, S _ _ h⟩, r.keep S⟩
theorem Trips.at {H : Hp} : ∀ {vs : List V} {ts : List (Int × Int × Int)} {i : Nat} {x : V}, Trips H vs ts → vs[i]? = some x → ∃ p t, ts[i]? = some t ∧ x = .ref p ∧ H p = some (.tup [.int t.1, .int t.2.1, .int t.2.2])
  | _ :: _, t :: _, 0, _, ⟨⟨p, e, h⟩, _⟩, hx => by cases hx; exact ⟨p, t, rfl, e, h⟩
  | _ :: _, _ :: _, i + 1, _, ⟨_, r⟩, hx => r.at (i := i) (by simpa using hx)
theorem Prs.at {H : Hp} : ∀ {vs : List V} {ts : List (Int × Int)} {i : Nat} {x : V}, Prs H vs ts → vs[i]? = some x → ∃ p t, ts[i]? = some t ∧ x = .ref p ∧ H p = some (.tup [.int t.1, .int t.2])
  | _ :: _, t :: _, 0, _, ⟨⟨p, e, h⟩, _⟩, hx => by cases hx; exact ⟨p, t, rfl, e, h⟩
  | _ :: _, _ :: _, i + 1, _, ⟨_, r⟩, hx => r.at (i := i) (by simpa using hx)
theorem Prs.app {H : Hp} {p : Addr} {t : Int × Int} (h : H p = some (.tup [.int t.1, .int t.2])) : ∀ {vs : List V} {ts : List (Int × Int)}, Prs H vs ts → Prs H (vs ++ [.ref p]) (ts ++ [t])
  | [], [], _ => ⟨⟨p, rfl, h⟩, True.intro⟩
  | _ :: _, _ :: _, ⟨a, r⟩ => ⟨a, r.app h⟩
theorem Trips.len {H : Hp} : ∀ {vs : List V} {ts : List (Int × Int × Int)}, Trips H vs ts → vs.length = ts.length
  | [], [], _ => rfl
  | _ :: vs, _ :: ts, ⟨_, r⟩ => by simp [r.len]
theorem Prs.len {H : Hp} : ∀ {vs : List V} {ts : List (Int × Int)}, Prs H vs ts → vs.length = ts.length
  | [], [], _ => rfl
  | _ :: vs, _ :: ts, ⟨_, r⟩ => by simp [r.len]
theorem andF {p q : Prop} [Decidable p] [Decidable q] (h : ¬ (p ∧ q)) : (decide p && decide q) = false := by
  by_cases hp : p
  · rw [decide_eq_true hp, decide_eq_false (fun hq => h ⟨hp, hq⟩)]; rfl
  · rw [decide_eq_false hp]; rfl
local macro_rules | `(tactic| walk_at "bF") => `(tactic| first | exact andF (by with_reducible assumption) | fail "bF")
/-- where a counter is asked for its gap -/
def restSpans (n M : Int) : List (Int × Int × Int) := if M ≤ n then [(0, M, M)] else if M % n = 0 then [(0, M, n)] else [(0, M - n, n), (M - n, M - M % n, n + M % n), (M - M % n, M, M % n)]
def offSpans (n M : Int) : List (Int × Int × Int) := if M ≤ n then [(0, M, M)] else if M < 2 * n then [(0, M - n, n), (M - n, n, M), (n, M, M - n)] else [(0, n, n), (n, 2 * n, M - n)]
def stepsTo (f e M c : Int) : Int := if f ≤ c ∧ c < e then 0 else (f - c) % M

/-- steps to the next counter with these bits -/
def stb (M mask bits c : Int) : Int :=
  if Builtin.bitAnd (Builtin.bitXor c bits) mask = 0 then 0 else
  if Builtin.bitAnd c (1 * 2 ^ (((Builtin.Int.intBits (Builtin.bitAnd (Builtin.bitXor c bits) mask) : Nat) : Int) - 1).toNat) ≠ 0 then
    (Builtin.bitOr (Builtin.bitAnd (Builtin.bitOr (Builtin.bitOr c mask) (2 * (1 * 2 ^ (((Builtin.Int.intBits (Builtin.bitAnd (Builtin.bitXor c bits) mask) : Nat) : Int) - 1).toNat) - 1) + 1) (M - 1 - mask)) bits - c) % M
  else
    (Builtin.bitOr (Builtin.bitOr c (2 * (1 * 2 ^ (((Builtin.Int.intBits (Builtin.bitAnd (Builtin.bitXor c bits) mask) : Nat) : Int) - 1).toNat) - 1) - (2 * (1 * 2 ^ (((Builtin.Int.intBits (Builtin.bitAnd (Builtin.bitXor c bits) mask) : Nat) : Int) - 1).toNat) - 1)) (Builtin.bitAnd bits (2 * (1 * 2 ^ (((Builtin.Int.intBits (Builtin.bitAnd (Builtin.bitXor c bits) mask) : Nat) : Int) - 1).toNat) - 1)) - c) % M
def mgLoop (free M c : Int) : Nat → Int → Int → List (Int × Int) → List (Int × Int)
  | 0, _, _, acc => acc
  | k + 1, lower, bit, acc => if bit < M then (if Builtin.bitAnd free bit ≠ 0 then mgLoop free M c k (Builtin.bitOr lower bit) (2 * bit) (acc ++ [(stb M (Builtin.bitOr lower bit) lower c, bit - lower)]) else mgLoop free M c k lower (2 * bit) acc) else acc
def freeOf (n M : Int) : Int := M - 1 - Builtin.bitAnd (n - 1) (M - 1)
def maskGaps (n M c : Int) : List (Int × Int) := mgLoop (freeOf n M) M c 101 0 1 [] ++ [(stb M (freeOf n M) (freeOf n M) c, M - freeOf n M)]
theorem mg_len (free M c : Int) : ∀ (k : Nat) (l b : Int) (acc : List (Int × Int)), (mgLoop free M c k l b acc).length ≤ acc.length + k
  | 0, _, _, _ => Nat.le_refl _
  | k + 1, l, b, acc => by
    unfold mgLoop
    split
    · split
      · have := mg_len free M c k (Builtin.bitOr l b) (2 * b) (acc ++ [(stb M (Builtin.bitOr l b) l c, b - l)])
        rw [List.length_append] at this
        simp only [List.length_cons, List.length_nil] at this
        omega
      · have := mg_len free M c k l (2 * b) acc
        omega
    · omega
theorem mask_len (n M c : Int) : (maskGaps n M c).length ≤ 102 := by
  have := mg_len (freeOf n M) M c 101 0 1 []
  unfold maskGaps
  rw [List.length_append]
  simp only [List.length_cons, List.length_nil] at this ⊢
  omega

def gapsOf (ts : List (Int × Int × Int)) (M c : Int) : List (Int × Int) := ts.map fun t => (stepsTo t.1 t.2.1 M c, t.2.2)
theorem rest_len (n M : Int) : (restSpans n M).length ≤ 3 := by
  unfold restSpans
  split
  · simp
  · split <;> simp
theorem off_len (n M : Int) : (offSpans n M).length ≤ 3 := by
  unfold offSpans
  split
  · simp
  · split <;> simp
def gapsM (k : Str) (n M c : Int) : List (Int × Int) := if k = "mask" then maskGaps n M c else if k = "off" then gapsOf (offSpans n M) M c else gapsOf (restSpans n M) M c
theorem gapsM_mask (n M c : Int) : gapsM "mask" n M c = maskGaps n M c := if_pos rfl
theorem gapsM_off (n M c : Int) : gapsM "off" n M c = gapsOf (offSpans n M) M c := by unfold gapsM; rw [if_neg off_ne_mask, if_pos rfl]
theorem rest_ne_off : ¬ (("rest" : Str) = "off") := by decide +kernel
theorem rest_ne_mask : ¬ (("rest" : Str) = "mask") := by decide +kernel
theorem gapsM_rest (n M c : Int) : gapsM "rest" n M c = gapsOf (restSpans n M) M c := by unfold gapsM; rw [if_neg rest_ne_mask, if_neg rest_ne_off]

def GapsOk (k : Str) (n M c : Int) : Prop := (∀ x ∈ gapsM k n M c, x.1 = 0 → IsGap k n M c x.2) ∧ ∃ x ∈ gapsM k n M c, x.1 = 0
def zeros (gs : List (Int × Int)) : List Int := (gs.filter fun x => decide (x.1 = 0)).map (·.2)
theorem zeros_mem {gs : List (Int × Int)} {g : Int} (h : g ∈ zeros gs) : ∃ x ∈ gs, x.1 = 0 ∧ x.2 = g := by
  unfold zeros at h
  obtain ⟨x, hx, e⟩ := List.mem_map.mp h
  obtain ⟨h1, h2⟩ := List.mem_filter.mp hx
  exact ⟨x, h1, of_decide_eq_true h2, e⟩
theorem zeros_pos {gs : List (Int × Int)} (h : ∃ x ∈ gs, x.1 = 0) : 0 < (zeros gs).length := by
  obtain ⟨x, hx, e⟩ := h
  exact List.length_pos_of_mem (List.mem_map.mpr ⟨x, List.mem_filter.mpr ⟨hx, decide_eq_true e⟩, rfl⟩)
theorem zeros_in {gs : List (Int × Int)} {i : Nat} {s g : Int} (h : gs[i]? = some (s, g)) (e : s = 0) : zeros (gs.take (i + 1)) = zeros (gs.take i) ++ [g] := by
  unfold zeros
  rw [List.take_add_one, h, List.filter_append, List.map_append]
  simp [e]
theorem zeros_out {gs : List (Int × Int)} {i : Nat} {s g : Int} (h : gs[i]? = some (s, g)) (e : ¬ s = 0) : zeros (gs.take (i + 1)) = zeros (gs.take i) := by
  unfold zeros
  rw [List.take_add_one, h, List.filter_append, List.map_append]
  simp [e]
theorem zeros_len (gs : List (Int × Int)) : (zeros gs).length ≤ gs.length := by
  unfold zeros
  rw [List.length_map]
  exact List.length_filter_le _ _
local macro_rules | `(tactic| walk_at "bT") => `(tactic| first | exact decide_eq_true (by with_reducible assumption) | fail "bT")
local macro_rules | `(tactic| walk_at "bF") => `(tactic| first | exact decide_eq_false (by with_reducible assumption) | fail "bF")

theorem ne_mod {x h n : Int} (h0 : 0 < h) (hn : h < n) : (x + h) % n ≠ x % n := by
  intro e
  have := Int.emod_eq_emod_iff_emod_sub_eq_zero.mp e
  rw [show x + h - x = h by omega, Int.emod_eq_of_lt (by omega) hn] at this
  omega
theorem ne_modn {x h n : Int} (h0 : 0 < h) (hn : h < n) : (x - h) % n ≠ x % n := by
  intro e
  refine ne_mod (x := x - h) h0 hn ?_
  rw [show x - h + h = x by omega]
  exact e.symm
theorem wrapM {c h M : Int} (c0 : 0 ≤ c) (cM : c < M) (h0 : 0 ≤ h) (hM : h ≤ M) : (c + h < M ∧ (c + h) % M = c + h) ∨ (M ≤ c + h ∧ (c + h) % M = c + h - M) := by
  rcases Int.lt_or_le (c + h) M with q | q
  · exact .inl ⟨q, Int.emod_eq_of_lt (by omega) q⟩
  · refine .inr ⟨q, ?_⟩
    rw [show c + h = (c + h - M) + M by omega, Int.add_emod_right, Int.emod_eq_of_lt (by omega) (by omega)]
    omega
theorem modM (n M x : Int) : (x - M) % n = (x - M % n) % n := by
  have e := Int.emod_def M n
  rw [e, show x - (M - n * (M / n)) = (x - M) + n * (M / n) by omega, Int.add_mul_emod_self_left]
theorem steps0 {f e M c : Int} (fe : f < e) (f0 : 0 ≤ f) (fM : f < M) (c0 : 0 ≤ c) (cM : c < M) (h : stepsTo f e M c = 0) : f ≤ c ∧ c < e := by
  unfold stepsTo at h
  split at h
  · assumption
  · rename_i q
    exfalso
    rcases Int.lt_or_le c f with z | z
    · rw [Int.emod_eq_of_lt (by omega) (by omega)] at h
      omega
    · rw [show f - c = (f - c + M) + M * (-1) by omega, Int.add_mul_emod_self_left, Int.emod_eq_of_lt (by omega) (by omega)] at h
      omega
theorem steps_in {f e M c : Int} (h : f ≤ c ∧ c < e) : stepsTo f e M c = 0 := if_pos h
theorem gap_rest {n M c : Int} (n1 : 1 ≤ n) (c0 : 0 ≤ c) (cM : c < M) : GapsOk "rest" n M c := by
  unfold GapsOk
  rw [gapsM_rest]
  have S : ∀ x, slotV "rest" n x = .int (x % n) := fun x => slotV_rest n x
  have R : ∀ {x y : Int}, x % n = y % n → slotV "rest" n x = slotV "rest" n y := fun e => by rw [S, S, e]
  have N : ∀ {x y : Int}, x % n ≠ y % n → slotV "rest" n x ≠ slotV "rest" n y := fun e z => by rw [S, S] at z; exact e (V.int.inj z)
  have hl0 := Int.emod_nonneg M (show n ≠ 0 by omega)
  have hl1 := Int.emod_lt_of_pos M (show 0 < n by omega)
  unfold restSpans gapsOf
  split
  · rename_i q
    refine ⟨fun x hx x0 => ?_, ⟨_, List.mem_map.mpr ⟨_, List.mem_cons_self .., rfl⟩, steps_in ⟨c0, cM⟩⟩⟩
    simp only [List.map_cons, List.map_nil, List.mem_singleton] at hx
    subst hx
    refine ⟨by show 1 ≤ M; omega, Int.le_refl _, R (by rw [Int.add_emod_right, Int.emod_eq_of_lt c0 cM]), fun h h1 h2 => N ?_⟩
    have h2 : h < M := h2
    rcases wrapM (h := h) c0 cM (by omega) (by omega) with ⟨a, b⟩ | ⟨a, b⟩
    · rw [b, Int.emod_eq_of_lt (by omega) (by omega), Int.emod_eq_of_lt (by omega) (by omega)]; omega
    · rw [b, Int.emod_eq_of_lt (by omega) (by omega), Int.emod_eq_of_lt (by omega) (by omega)]; omega
  · rename_i q
    split
    · rename_i g
      refine ⟨fun x hx x0 => ?_, ⟨_, List.mem_map.mpr ⟨_, List.mem_cons_self .., rfl⟩, steps_in ⟨c0, cM⟩⟩⟩
      simp only [List.map_cons, List.map_nil, List.mem_singleton] at hx
      subst hx
      have dv : n ∣ M := Int.dvd_of_emod_eq_zero g
      refine ⟨n1, by show n ≤ M; omega, R ?_, fun h h1 h2 => N ?_⟩
      · show (c + n) % M % n = c % n
        rw [Int.emod_emod_of_dvd _ dv, Int.add_emod_right]
      · rw [Int.emod_emod_of_dvd _ dv]
        exact ne_mod (by omega) h2
    · rename_i g
      have lp : 0 < M % n := by omega
      have hq : n + M % n ≤ M := by
        have e := Int.emod_def M n
        have d1 : 1 ≤ M / n := (Int.le_ediv_iff_mul_le (by omega)).mpr (by omega)
        have : n * 1 ≤ n * (M / n) := Int.mul_le_mul_of_nonneg_left d1 (by omega)
        omega
      have G1 : c < M - n → IsGap "rest" n M c n := fun hc => by
        refine ⟨n1, by omega, R ?_, fun h h1 h2 => N ?_⟩
        · rw [Int.emod_eq_of_lt (show 0 ≤ c + n by omega) (by omega), Int.add_emod_right]
        · rw [Int.emod_eq_of_lt (show 0 ≤ c + h by omega) (by omega)]
          exact ne_mod (by omega) h2
      have G2 : M - n ≤ c → c < M - M % n → IsGap "rest" n M c (n + M % n) := fun ha hb => by
        refine ⟨by omega, hq, R ?_, fun h h1 h2 => N ?_⟩
        · rcases wrapM (h := n + M % n) c0 cM (by omega) hq with ⟨a, b⟩ | ⟨a, b⟩
          · omega
          · rw [b, modM, show c + (n + M % n) - M % n = c + n by omega, Int.add_emod_right]
        · rcases wrapM (h := h) c0 cM (by omega) (by omega) with ⟨a, b⟩ | ⟨a, b⟩
          · rw [b]; exact ne_mod (by omega) (by omega)
          · rw [b, modM, show c + h - M % n = c + (h - M % n) by omega]
            exact ne_mod (by omega) (by omega)
      have G3 : M - M % n ≤ c → IsGap "rest" n M c (M % n) := fun ha => by
        refine ⟨by omega, by omega, R ?_, fun h h1 h2 => N ?_⟩
        · rcases wrapM (h := M % n) c0 cM (by omega) (by omega) with ⟨a, b⟩ | ⟨a, b⟩
          · omega
          · rw [b, modM, show c + M % n - M % n = c by omega]
        · rcases wrapM (h := h) c0 cM (by omega) (by omega) with ⟨a, b⟩ | ⟨a, b⟩
          · rw [b]; exact ne_mod (by omega) (by omega)
          · rw [b, modM, show c + h - M % n = c - (M % n - h) by omega]
            exact ne_modn (by omega) (by omega)
      refine ⟨fun x hx x0 => ?_, ?_⟩
      · simp only [List.map_cons, List.map_nil, List.mem_cons, List.not_mem_nil, or_false] at hx
        rcases hx with rfl | rfl | rfl
        · have := steps0 (by omega) (by omega) (by omega) c0 cM x0
          exact G1 this.2
        · have := steps0 (by omega) (by omega) (by omega) c0 cM x0
          exact G2 this.1 this.2
        · have := steps0 (by omega) (by omega) (by omega) c0 cM x0
          exact G3 this.1
      · rcases (by omega : c < M - n ∨ (M - n ≤ c ∧ c < M - M % n) ∨ M - M % n ≤ c) with z | z | z
        · exact ⟨_, List.mem_map.mpr ⟨_, List.mem_cons_self .., rfl⟩, steps_in ⟨c0, z⟩⟩
        · exact ⟨_, List.mem_map.mpr ⟨_, List.mem_cons_of_mem _ (List.mem_cons_self ..), rfl⟩, steps_in z⟩
        · exact ⟨_, List.mem_map.mpr ⟨_, List.mem_cons_of_mem _ (List.mem_cons_of_mem _ (List.mem_cons_self ..)), rfl⟩, steps_in ⟨z, cM⟩⟩
theorem off_lo {n x : Int} (h : x < n) : slotV "off" n x = .int x := by rw [slotV_off, if_pos h]
theorem off_hi {n x : Int} (h : ¬ x < n) (g : x < 2 * n) : slotV "off" n x = .int (x - n) := by rw [slotV_off, if_neg h, if_pos g]
theorem off_out {n x : Int} (h : ¬ x < 2 * n) (hn : 1 ≤ n) : slotV "off" n x = .non := by rw [slotV_off, if_neg (by omega), if_neg h]
theorem off_ne {n x s : Int} (hn : 1 ≤ n) (h1 : x < n → x ≠ s) (h2 : ¬ x < n → x < 2 * n → x - n ≠ s) : slotV "off" n x ≠ .int s := by
  rcases Int.lt_or_le x n with q | q
  · rw [off_lo q]; exact fun z => h1 q (V.int.inj z)
  · rcases Int.lt_or_le x (2 * n) with g | g
    · rw [off_hi (by omega) g]; exact fun z => h2 (by omega) g (V.int.inj z)
    · rw [off_out (by omega) hn]; exact fun z => by cases z
theorem gap_off {n M c : Int} (n1 : 1 ≤ n) (c0 : 0 ≤ c) (cM : c < M) (hs : slotV "off" n c ≠ .non) : GapsOk "off" n M c := by
  have c2 : c < 2 * n := by
    rcases Int.lt_or_le c (2 * n) with q | q
    · exact q
    · exact absurd (off_out (by omega) n1) hs
  unfold GapsOk
  rw [gapsM_off]
  unfold offSpans gapsOf
  split
  · rename_i q
    refine ⟨fun x hx x0 => ?_, ⟨_, List.mem_map.mpr ⟨_, List.mem_cons_self .., rfl⟩, steps_in ⟨c0, cM⟩⟩⟩
    simp only [List.map_cons, List.map_nil, List.mem_singleton] at hx
    subst hx
    refine ⟨by show 1 ≤ M; omega, Int.le_refl _, by rw [Int.add_emod_right, Int.emod_eq_of_lt c0 cM], fun h h1 h2 => ?_⟩
    have h2 : h < M := h2
    rw [off_lo (show c < n by omega)]
    rcases wrapM (h := h) c0 cM (by omega) (by omega) with ⟨a, b⟩ | ⟨a, b⟩ <;> rw [b] <;> exact off_ne n1 (by omega) (by omega)
  · rename_i q
    split
    · rename_i g
      have G1 : c < M - n → IsGap "off" n M c n := fun hc => by
        refine ⟨n1, by omega, ?_, fun h h1 h2 => ?_⟩
        · rw [Int.emod_eq_of_lt (show 0 ≤ c + n by omega) (by omega), off_hi (by omega) (by omega), off_lo (by omega)]
          congr 1; omega
        · rw [off_lo (show c < n by omega), Int.emod_eq_of_lt (show 0 ≤ c + h by omega) (by omega)]
          exact off_ne n1 (by omega) (by omega)
      have G2 : M - n ≤ c → c < n → IsGap "off" n M c M := fun ha hb => by
        refine ⟨by omega, Int.le_refl _, by rw [Int.add_emod_right, Int.emod_eq_of_lt c0 cM], fun h h1 h2 => ?_⟩
        rw [off_lo hb]
        rcases wrapM (h := h) c0 cM (by omega) (by omega) with ⟨a, b⟩ | ⟨a, b⟩ <;> rw [b] <;> exact off_ne n1 (by omega) (by omega)
      have G3 : n ≤ c → IsGap "off" n M c (M - n) := fun ha => by
        refine ⟨by omega, by omega, ?_, fun h h1 h2 => ?_⟩
        · rcases wrapM (h := M - n) c0 cM (by omega) (by omega) with ⟨a, b⟩ | ⟨a, b⟩
          · omega
          · rw [b, off_hi (show ¬ c < n by omega) (by omega), off_lo (by omega)]
            congr 1; omega
        · rw [off_hi (show ¬ c < n by omega) (by omega)]
          rcases wrapM (h := h) c0 cM (by omega) (by omega) with ⟨a, b⟩ | ⟨a, b⟩ <;> rw [b] <;> exact off_ne n1 (by omega) (by omega)
      refine ⟨fun x hx x0 => ?_, ?_⟩
      · simp only [List.map_cons, List.map_nil, List.mem_cons, List.not_mem_nil, or_false] at hx
        rcases hx with rfl | rfl | rfl
        · exact G1 (steps0 (by omega) (by omega) (by omega) c0 cM x0).2
        · have := steps0 (by omega) (by omega) (by omega) c0 cM x0
          exact G2 this.1 this.2
        · exact G3 (steps0 (by omega) (by omega) (by omega) c0 cM x0).1
      · rcases (by omega : c < M - n ∨ (M - n ≤ c ∧ c < n) ∨ n ≤ c) with z | z | z
        · exact ⟨_, List.mem_map.mpr ⟨_, List.mem_cons_self .., rfl⟩, steps_in ⟨c0, z⟩⟩
        · exact ⟨_, List.mem_map.mpr ⟨_, List.mem_cons_of_mem _ (List.mem_cons_self ..), rfl⟩, steps_in z⟩
        · exact ⟨_, List.mem_map.mpr ⟨_, List.mem_cons_of_mem _ (List.mem_cons_of_mem _ (List.mem_cons_self ..)), rfl⟩, steps_in ⟨z, cM⟩⟩
    · rename_i g
      have G1 : c < n → IsGap "off" n M c n := fun hc => by
        refine ⟨n1, by omega, ?_, fun h h1 h2 => ?_⟩
        · rw [Int.emod_eq_of_lt (show 0 ≤ c + n by omega) (by omega), off_hi (by omega) (by omega), off_lo (by omega)]
          congr 1; omega
        · rw [off_lo (show c < n by omega), Int.emod_eq_of_lt (show 0 ≤ c + h by omega) (by omega)]
          exact off_ne n1 (by omega) (by omega)
      have G3 : n ≤ c → IsGap "off" n M c (M - n) := fun ha => by
        refine ⟨by omega, by omega, ?_, fun h h1 h2 => ?_⟩
        · rcases wrapM (h := M - n) c0 cM (by omega) (by omega) with ⟨a, b⟩ | ⟨a, b⟩
          · omega
          · rw [b, off_hi (show ¬ c < n by omega) (by omega), off_lo (by omega)]
            congr 1; omega
        · rw [off_hi (show ¬ c < n by omega) (by omega)]
          rcases wrapM (h := h) c0 cM (by omega) (by omega) with ⟨a, b⟩ | ⟨a, b⟩ <;> rw [b] <;> exact off_ne n1 (by omega) (by omega)
      refine ⟨fun x hx x0 => ?_, ?_⟩
      · simp only [List.map_cons, List.map_nil, List.mem_cons, List.not_mem_nil, or_false] at hx
        rcases hx with rfl | rfl
        · exact G1 (steps0 (by omega) (by omega) (by omega) c0 cM x0).2
        · exact G3 (steps0 (by omega) (by omega) (by omega) c0 cM x0).1
      · rcases (by omega : c < n ∨ n ≤ c) with z | z
        · exact ⟨_, List.mem_map.mpr ⟨_, List.mem_cons_self .., rfl⟩, steps_in ⟨c0, z⟩⟩
        · exact ⟨_, List.mem_map.mpr ⟨_, List.mem_cons_of_mem _ (List.mem_cons_self ..), rfl⟩, steps_in ⟨z, c2⟩⟩
theorem nb_m2 (a b : Nat) : (a ^^^ b) % 2 = (a % 2) ^^^ (b % 2) ∧ (a &&& b) % 2 = (a % 2) &&& (b % 2) := by
  have h1 := Nat.xor_mod_two_pow (a := a) (b := b) (n := 1)
  have h2 := Nat.and_mod_two_pow (a := a) (b := b) (n := 1)
  simp only [Nat.pow_one] at h1 h2
  exact ⟨h1, h2⟩
theorem nb_xor (a b : Nat) : (a ^^^ b) + 2 * (a &&& b) = a + b := by
  induction a using Nat.strongRecOn generalizing b with
  | ind a ih =>
    rcases Nat.eq_zero_or_pos a with rfl | h
    · simp
    · have e := ih (a / 2) (by omega) (b / 2)
      have x1 : (a ^^^ b) / 2 = a / 2 ^^^ b / 2 := Nat.xor_div_two
      have x3 : (a &&& b) / 2 = a / 2 &&& b / 2 := Nat.and_div_two
      obtain ⟨x2, x4⟩ := nb_m2 a b
      rw [← x1, ← x3] at e
      rcases Nat.mod_two_eq_zero_or_one a with p | p <;> rcases Nat.mod_two_eq_zero_or_one b with q | q <;> rw [p, q] at x4 x2 <;> simp only [Nat.reduceXor, Nat.reduceAnd] at x4 x2 <;> omega
theorem nb_or (a b : Nat) (h : a &&& b = 0) : a ||| b = a + b := by
  have := nb_xor a b
  rw [h, Nat.mul_zero, Nat.add_zero] at this
  rw [← this]
  apply Nat.eq_of_testBit_eq
  intro i
  have := congrArg (Nat.testBit · i) h
  simp only [Nat.testBit_and, Nat.zero_testBit] at this
  rw [Nat.testBit_or, Nat.testBit_xor]
  revert this
  cases a.testBit i <;> cases b.testBit i <;> simp
theorem nb_split {j f u y : Nat} (d : f &&& u = 0) (o : f ||| u = 2 ^ j - 1) (hy : y < 2 ^ j) : (y &&& f) + (y &&& u) = y := by
  rw [← nb_or]
  · rw [← Nat.and_or_distrib_left, o, Nat.and_two_pow_sub_one_eq_mod, Nat.mod_eq_of_lt hy]
  · rw [show (y &&& f) &&& (y &&& u) = y &&& (f &&& u) by
      apply Nat.eq_of_testBit_eq
      intro i
      simp only [Nat.testBit_and]
      cases y.testBit i <;> cases f.testBit i <;> cases u.testBit i <;> rfl, d, Nat.and_zero]
theorem nb_low {j f u c h : Nat} (d : f &&& u = 0) (o : f ||| u = 2 ^ j - 1) (fl : f < 2 ^ j) (cl : c < 2 ^ j) (hc : c &&& f = f)
    (h1 : 1 ≤ h) (h2 : h < 2 ^ j - f) : (c + h) % 2 ^ j &&& u ≠ c &&& u := by
  intro e
  have s1 := nb_split d o cl
  rw [hc] at s1
  rcases Nat.lt_or_ge (c + h) (2 ^ j) with q | q
  · rw [Nat.mod_eq_of_lt q] at e
    have s2 := nb_split d o q
    have := Nat.and_le_right (n := c + h) (m := f)
    omega
  · rw [Nat.mod_eq_sub_mod q, Nat.mod_eq_of_lt (by omega)] at e
    have := Nat.and_le_left (n := c + h - 2 ^ j) (m := u)
    omega
/-- the free bits of a mask -/
structure Fr (w F m : Nat) : Prop where
  ff : F < 2 ^ w
  mm : m < 2 ^ w
  bb : ∀ i, F.testBit i = (decide (i < w) && !m.testBit i)
theorem Fr.of {w m : Nat} (h : m < 2 ^ w) : Fr w (2 ^ w - 1 - m) m := by
  refine ⟨by omega, h, fun i => ?_⟩
  rw [show 2 ^ w - 1 - m = 2 ^ w - (m + 1) by omega, Nat.testBit_two_pow_sub_succ h]
theorem Fr.d {w F m : Nat} (h : Fr w F m) : F &&& m = 0 := by
  apply Nat.eq_of_testBit_eq
  intro i
  rw [Nat.testBit_and, h.bb, Nat.zero_testBit]
  cases decide (i < w) <;> cases m.testBit i <;> rfl
theorem nb_hi {x w i : Nat} (h : x < 2 ^ w) (g : w ≤ i) : x.testBit i = false := Nat.testBit_lt_two_pow (Nat.lt_of_lt_of_le h (Nat.pow_le_pow_right (by decide) g))
theorem Fr.o {w F m : Nat} (h : Fr w F m) : F ||| m = 2 ^ w - 1 := by
  apply Nat.eq_of_testBit_eq
  intro i
  rw [Nat.testBit_or, h.bb, Nat.testBit_two_pow_sub_one]
  rcases Nat.lt_or_ge i w with g | g
  · rw [decide_eq_true g]; cases m.testBit i <;> rfl
  · rw [decide_eq_false (by omega), nb_hi h.mm g]; rfl
def Cov (F c k : Nat) : Prop := ∀ i, i < k → F.testBit i = true → c.testBit i = true
theorem Fr.cov {w F m : Nat} (h : Fr w F m) (c : Nat) : ∀ k, k ≤ w → (∃ j, j < k ∧ F.testBit j = true ∧ Cov F c j ∧ c.testBit j = false) ∨ Cov F c k
  | 0, _ => .inr fun i hi => absurd hi (by omega)
  | k + 1, hk => by
    rcases h.cov c k (by omega) with ⟨j, h1, h2⟩ | h1
    · exact .inl ⟨j, by omega, h2⟩
    · cases q : c.testBit k with
      | false =>
        cases p : F.testBit k with
        | true => exact .inl ⟨k, by omega, p, h1, q⟩
        | false =>
          refine .inr fun i hi hf => ?_
          rcases (by omega : i < k ∨ i = k) with z | rfl
          · exact h1 i z hf
          · rw [p] at hf; cases hf
      | true =>
        refine .inr fun i hi hf => ?_
        rcases (by omega : i < k ∨ i = k) with z | rfl
        · exact h1 i z hf
        · exact q
/-- below a free bit -/
theorem Fr.lt {w F m j c h : Nat} (r : Fr w F m) (hj : j ≤ w) (hc : Cov F c j) (h1 : 1 ≤ h) (h2 : h < 2 ^ j - F % 2 ^ j) : (c + h) % 2 ^ w &&& m ≠ c &&& m := by
  intro e
  have e2 := congrArg (· % 2 ^ j) e
  simp only [Nat.and_mod_two_pow] at e2
  rw [Nat.mod_mod_of_dvd _ (Nat.pow_dvd_pow 2 hj), Nat.add_mod, ] at e2
  have hp : 0 < 2 ^ j := Nat.pos_of_ne_zero (by simp)
  refine nb_low (j := j) (f := F % 2 ^ j) (u := m % 2 ^ j) (c := c % 2 ^ j) (h := h) ?_ ?_ (Nat.mod_lt _ hp) (Nat.mod_lt _ hp) ?_ h1 h2 ?_
  · rw [← Nat.and_mod_two_pow, r.d, Nat.zero_mod]
  · rw [← Nat.or_mod_two_pow, r.o]
    apply Nat.eq_of_testBit_eq
    intro i
    rw [Nat.testBit_mod_two_pow, Nat.testBit_two_pow_sub_one, Nat.testBit_two_pow_sub_one]
    by_cases g : i < j
    · rw [decide_eq_true g, decide_eq_true (by omega)]; rfl
    · rw [decide_eq_false g]; rfl
  · apply Nat.eq_of_testBit_eq
    intro i
    rw [Nat.testBit_and, Nat.testBit_mod_two_pow, Nat.testBit_mod_two_pow]
    by_cases g : i < j
    · cases q : F.testBit i with
      | true => rw [hc i g q]; simp
      | false => simp
    · rw [decide_eq_false g]; rfl
  · rw [← e2, Nat.mod_eq_of_lt (show h < 2 ^ j by omega)]
/-- at a free bit -/
theorem Fr.at {w F m j c : Nat} (r : Fr w F m) (cw : c < 2 ^ w) (hj : j < w) (hf : F.testBit j = true) (hc : Cov F c j) (hn : c.testBit j = false) :
    c + (2 ^ j - F % 2 ^ j) < 2 ^ w ∧ (c + (2 ^ j - F % 2 ^ j)) &&& m = c &&& m := by
  have hp : 0 < 2 ^ j := Nat.pos_of_ne_zero (by simp)
  have hl := Nat.mod_lt F hp
  have q1 : F % 2 ^ j &&& 2 ^ j = 0 := by
    apply Nat.eq_of_testBit_eq
    intro i
    rw [Nat.testBit_and, Nat.testBit_mod_two_pow, Nat.testBit_two_pow, Nat.zero_testBit]
    by_cases g : i < j
    · rw [decide_eq_false (show ¬ j = i by omega)]; simp
    · rw [decide_eq_false g]; rfl
  have q2 := nb_or _ _ q1
  have q3 : c &&& (F % 2 ^ j ||| 2 ^ j) = F % 2 ^ j := by
    apply Nat.eq_of_testBit_eq
    intro i
    rw [Nat.testBit_and, Nat.testBit_or, Nat.testBit_mod_two_pow, Nat.testBit_two_pow]
    by_cases g : i < j
    · rw [decide_eq_true g, decide_eq_false (show ¬ j = i by omega)]
      cases q : F.testBit i with
      | true => rw [hc i g q]; rfl
      | false => simp
    · rw [decide_eq_false g]
      by_cases z : j = i
      · subst z; rw [hn]; rfl
      · rw [decide_eq_false z]; simp
  have q4 := nb_xor c (F % 2 ^ j ||| 2 ^ j)
  rw [q3] at q4
  have q5 : c + (2 ^ j - F % 2 ^ j) = c ^^^ (F % 2 ^ j ||| 2 ^ j) := by omega
  rw [q5]
  refine ⟨Nat.xor_lt_two_pow cw (Nat.or_lt_two_pow (Nat.lt_of_lt_of_le hl (Nat.pow_le_pow_right (by decide) (by omega))) (Nat.pow_lt_pow_right (by decide) hj)), ?_⟩
  apply Nat.eq_of_testBit_eq
  intro i
  rw [Nat.testBit_and, Nat.testBit_and, Nat.testBit_xor, Nat.testBit_or, Nat.testBit_mod_two_pow, Nat.testBit_two_pow]
  cases q : m.testBit i with
  | false => simp
  | true =>
    have h1 : F.testBit i = false := by rw [r.bb, q]; simp
    have h2 : ¬ j = i := fun z => by subst z; rw [h1] at hf; cases hf
    rw [h1, decide_eq_false h2]
    simp
theorem Fr.all {w F m c : Nat} (r : Fr w F m) (cw : c < 2 ^ w) (hc : Cov F c w) : (c + (2 ^ w - F)) % 2 ^ w &&& m = c &&& m := by
  have e : c &&& F = F := by
    apply Nat.eq_of_testBit_eq
    intro i
    rw [Nat.testBit_and]
    cases q : F.testBit i with
    | false => simp
    | true =>
      have : i < w := by
        rcases Nat.lt_or_ge i w with z | z
        · exact z
        · rw [nb_hi r.ff z] at q; cases q
      rw [hc i this q]; rfl
  have s := nb_split r.d r.o cw
  have hf := r.ff
  rw [e] at s
  rw [show c + (2 ^ w - F) = (c &&& m) + 2 ^ w by omega, Nat.add_mod_right, Nat.mod_eq_of_lt (by omega), Nat.and_assoc, Nat.and_self]
/-- no step where bits differ -/
theorem nb_stepA {w mask bits c x : Nat} (hk : mask < 2 ^ w) (hb : bits < 2 ^ w) (t : Nat) (tm : mask.testBit t = true) (tc : c.testBit t = true) (tb : bits.testBit t = false) :
    (x &&& (2 ^ w - 1 - mask)) ||| bits ≠ c ∧ (x &&& (2 ^ w - 1 - mask)) ||| bits < 2 ^ w := by
  constructor
  · intro e
    have := congrArg (Nat.testBit · t) e
    simp only [Nat.testBit_or, Nat.testBit_and] at this
    rw [(Fr.of hk).bb, tm, tc, tb] at this
    simp at this
  · exact Nat.or_lt_two_pow (Nat.lt_of_le_of_lt Nat.and_le_right (by omega)) hb
theorem nb_stepB {w bits c : Nat} (hc : c < 2 ^ w) (hb : bits < 2 ^ w) (t : Nat) (tw : t < w) (tc : c.testBit t = false) (tb : bits.testBit t = true) :
    ((c ||| (2 * 2 ^ t - 1)) - (2 * 2 ^ t - 1)) ||| (bits &&& (2 * 2 ^ t - 1)) ≠ c ∧ ((c ||| (2 * 2 ^ t - 1)) - (2 * 2 ^ t - 1)) ||| (bits &&& (2 * 2 ^ t - 1)) < 2 ^ w := by
  have e : 2 * 2 ^ t - 1 = 2 ^ (t + 1) - 1 := by rw [Nat.pow_succ, Nat.mul_comm]
  have l : 2 ^ (t + 1) ≤ 2 ^ w := Nat.pow_le_pow_right (by decide) tw
  have p : 0 < 2 ^ (t + 1) := Nat.pos_of_ne_zero (by simp)
  rw [e]
  constructor
  · intro z
    have := congrArg (Nat.testBit · t) z
    simp only [Nat.testBit_or, Nat.testBit_and, Nat.testBit_two_pow_sub_one] at this
    rw [tc, tb] at this
    simp at this
  · refine Nat.or_lt_two_pow ?_ (Nat.lt_of_le_of_lt Nat.and_le_left hb)
    have := Nat.or_lt_two_pow hc (show 2 ^ (t + 1) - 1 < 2 ^ w by omega)
    omega
theorem nb_top {u : Nat} (h : u ≠ 0) : u.testBit u.log2 = true := by
  rw [Nat.testBit_eq_decide_div_mod_eq]
  have h1 := Nat.log2_self_le h
  have h2 : u < 2 ^ (u.log2 + 1) := Nat.lt_log2_self
  rw [Nat.pow_succ] at h2
  have h3 : u / 2 ^ u.log2 = 1 := by
    apply Nat.le_antisymm
    · exact Nat.le_of_lt_succ ((Nat.div_lt_iff_lt_mul (Nat.pos_of_ne_zero (by simp))).mpr (by omega))
    · exact (Nat.le_div_iff_mul_le (Nat.pos_of_ne_zero (by simp))).mpr (by omega)
  rw [h3]
  rfl
theorem nb_and1 (n i : Nat) : n &&& 2 ^ i = if n.testBit i = true then 2 ^ i else 0 := by
  apply Nat.eq_of_testBit_eq
  intro k
  rw [Nat.testBit_and, Nat.testBit_two_pow]
  by_cases g : i = k
  · subst g
    rw [decide_eq_true rfl]
    split
    · rename_i h; rw [h, Nat.testBit_two_pow, decide_eq_true rfl]; rfl
    · rename_i h; rw [Bool.eq_false_iff.mpr h, Nat.zero_testBit]; rfl
  · rw [decide_eq_false g, Bool.and_false]
    split
    · rw [Nat.testBit_two_pow, decide_eq_false g]
    · rw [Nat.zero_testBit]
theorem c_and (a b : Nat) : Builtin.bitAnd (a : Int) (b : Int) = ((a &&& b : Nat) : Int) := rfl
theorem c_or (a b : Nat) : Builtin.bitOr (a : Int) (b : Int) = ((a ||| b : Nat) : Int) := by
  rw [L2.bitOr_nn (Int.natCast_nonneg _) (Int.natCast_nonneg _), Int.toNat_natCast, Int.toNat_natCast]
theorem c_xor (a b : Nat) : Builtin.bitXor (a : Int) (b : Int) = ((a ^^^ b : Nat) : Int) := by
  have e : Builtin.bitXor (a : Int) (b : Int) = Builtin.bitOr (a : Int) (b : Int) - Builtin.bitAnd (a : Int) (b : Int) := rfl
  rw [e, c_or, c_and]
  have h1 := nb_xor a b
  have h2 : (a ||| b) = (a ^^^ b) + (a &&& b) := by
    rw [← nb_or]
    · apply Nat.eq_of_testBit_eq
      intro i
      simp only [Nat.testBit_or, Nat.testBit_xor, Nat.testBit_and]
      cases a.testBit i <;> cases b.testBit i <;> rfl
    · apply Nat.eq_of_testBit_eq
      intro i
      simp only [Nat.testBit_xor, Nat.testBit_and, Nat.zero_testBit]
      cases a.testBit i <;> cases b.testBit i <;> rfl
  omega
theorem c_pow (i : Nat) : (2 : Int) ^ i = ((2 ^ i : Nat) : Int) := by
  rw [Int.natCast_pow]; rfl
theorem c_bits {u : Nat} (h : u ≠ 0) : (((Builtin.Int.intBits (u : Int) : Nat) : Int) - 1).toNat = u.log2 := by
  unfold Builtin.Int.intBits
  rw [if_neg (by simpa using h)]
  show (((u.log2 + 1 : Nat) : Int) - 1).toNat = u.log2
  omega
theorem nz_mod {M : Nat} {x c : Nat} (hx : x < M) (hc : c < M) (h : x ≠ c) : ((x : Int) - (c : Int)) % (M : Int) ≠ 0 := by
  intro e
  have := Int.emod_eq_emod_iff_emod_sub_eq_zero.mpr e
  rw [Int.emod_eq_of_lt (by omega) (by omega), Int.emod_eq_of_lt (by omega) (by omega)] at this
  omega
theorem stb_zero {w mask bits c : Nat} (hk : mask < 2 ^ w) (hb : bits < 2 ^ w) (hc : c < 2 ^ w) : stb ((2 ^ w : Nat) : Int) mask bits c = 0 ↔ (c ^^^ bits) &&& mask = 0 := by
  unfold stb
  rw [c_xor, c_and]
  rcases Decidable.em ((c ^^^ bits) &&& mask = 0) with h | h
  · rw [if_pos (by rw [h]; rfl)]
    exact ⟨fun _ => h, fun _ => rfl⟩
  · rw [if_neg (by intro z; exact h (by exact_mod_cast z)), c_bits h, Int.one_mul, c_pow, c_and]
    refine ⟨fun z => ?_, fun z => absurd z h⟩
    exfalso
    have top := nb_top h
    generalize ((c ^^^ bits) &&& mask).log2 = t at top z
    rw [Nat.testBit_and, Nat.testBit_xor, Bool.and_eq_true] at top
    obtain ⟨t1, tm⟩ := top
    have tw : t < w := by
      rcases Nat.lt_or_ge t w with q | q
      · exact q
      · rw [nb_hi hk q] at tm; cases tm
    have p : 0 < 2 ^ t := Nat.pos_of_ne_zero (by simp)
    have e1 : (2 : Int) * ((2 ^ t : Nat) : Int) - 1 = ((2 * 2 ^ t - 1 : Nat) : Int) := by omega
    have e2 : (((2 ^ w : Nat) : Int) - 1 - (mask : Int)) = ((2 ^ w - 1 - mask : Nat) : Int) := by omega
    rw [e1, e2, c_or, c_or, c_or, c_and] at z
    rw [show ((((c ||| mask ||| (2 * 2 ^ t - 1) : Nat)) : Int) + 1) = ((((c ||| mask ||| (2 * 2 ^ t - 1)) + 1 : Nat)) : Int) by omega, c_and, c_or] at z
    have l := Nat.right_le_or (n := c) (m := 2 * 2 ^ t - 1)
    rw [show ((((c ||| (2 * 2 ^ t - 1) : Nat)) : Int) - ((2 * 2 ^ t - 1 : Nat) : Int)) = ((((c ||| (2 * 2 ^ t - 1)) - (2 * 2 ^ t - 1) : Nat)) : Int) by omega, c_or, nb_and1] at z
    cases tc : c.testBit t with
    | true =>
      have tb : bits.testBit t = false := by
        rw [tc] at t1; revert t1; cases bits.testBit t <;> simp
      rw [if_pos (by rw [tc]; simp; exact Int.ne_of_gt (Int.pow_pos (by decide)))] at z
      obtain ⟨s1, s2⟩ := nb_stepA (x := (c ||| mask ||| (2 * 2 ^ t - 1)) + 1) hk hb t tm tc tb
      exact nz_mod s2 hc s1 z
    | false =>
      have tb : bits.testBit t = true := by
        rw [tc] at t1; revert t1; cases bits.testBit t <;> simp
      rw [if_neg (by rw [tc]; simp)] at z
      obtain ⟨s1, s2⟩ := nb_stepB hc hb t tw tc tb
      exact nz_mod s2 hc s1 z
def prM (w F c j : Nat) : Int × Int := (stb ((2 ^ w : Nat) : Int) ((F % 2 ^ j ||| 2 ^ j : Nat) : Int) ((F % 2 ^ j : Nat) : Int) c, ((2 ^ j : Nat) : Int) - ((F % 2 ^ j : Nat) : Int))
theorem nb_next (F i : Nat) : F % 2 ^ (i + 1) = if F.testBit i = true then F % 2 ^ i ||| 2 ^ i else F % 2 ^ i := by
  apply Nat.eq_of_testBit_eq
  intro k
  split
  · rename_i h
    rw [Nat.testBit_or, Nat.testBit_mod_two_pow, Nat.testBit_mod_two_pow, Nat.testBit_two_pow]
    by_cases g : k < i
    · rw [decide_eq_true g, decide_eq_true (show k < i + 1 by omega), decide_eq_false (show ¬ i = k by omega)]; simp
    · rw [decide_eq_false g]
      by_cases z : i = k
      · subst z; rw [h]; simp
      · rw [decide_eq_false z, decide_eq_false (show ¬ k < i + 1 by omega)]; rfl
  · rename_i h
    rw [Nat.testBit_mod_two_pow, Nat.testBit_mod_two_pow]
    by_cases g : k < i
    · rw [decide_eq_true g, decide_eq_true (show k < i + 1 by omega)]
    · rw [decide_eq_false g]
      by_cases z : i = k
      · subst z; rw [Bool.eq_false_iff.mpr h]; simp
      · rw [decide_eq_false (show ¬ k < i + 1 by omega)]
theorem mg_mem {w F c : Nat} : ∀ (k i : Nat) (acc : List (Int × Int)), w ≤ i + k → i ≤ w →
    ∀ x, x ∈ mgLoop (F : Int) ((2 ^ w : Nat) : Int) c k ((F % 2 ^ i : Nat) : Int) ((2 ^ i : Nat) : Int) acc ↔ x ∈ acc ∨ ∃ j, i ≤ j ∧ j < w ∧ F.testBit j = true ∧ x = prM w F c j
  | 0, i, acc, h1, h2, x => by
    unfold mgLoop
    refine ⟨fun h => .inl h, fun h => ?_⟩
    rcases h with h | ⟨j, a, b, _⟩
    · exact h
    · omega
  | k + 1, i, acc, h1, h2, x => by
    unfold mgLoop
    have ep : (2 : Int) * ((2 ^ i : Nat) : Int) = ((2 ^ (i + 1) : Nat) : Int) := by rw [Nat.pow_succ]; omega
    have nx := nb_next F i
    rcases Nat.lt_or_ge i w with q | q
    · rw [if_pos (by exact_mod_cast Nat.pow_lt_pow_right (by decide) q), c_and, nb_and1, c_or, ep]
      cases tb : F.testBit i with
      | true =>
        rw [if_pos (by simp; exact Int.ne_of_gt (Int.pow_pos (by decide)))]
        rw [tb, if_pos rfl] at nx
        rw [show ((F % 2 ^ i ||| 2 ^ i : Nat) : Int) = ((F % 2 ^ (i + 1) : Nat) : Int) by rw [nx], mg_mem k (i + 1) _ (by omega) (by omega), List.mem_append, List.mem_singleton]
        have e0 : (stb ((2 ^ w : Nat) : Int) ((F % 2 ^ (i + 1) : Nat) : Int) ((F % 2 ^ i : Nat) : Int) c, ((2 ^ i : Nat) : Int) - ((F % 2 ^ i : Nat) : Int)) = prM w F c i := by unfold prM; rw [nx]
        rw [e0]
        constructor
        · rintro ((h | h) | ⟨j, a, b, d, e⟩)
          · exact .inl h
          · exact .inr ⟨i, by omega, q, tb, h⟩
          · exact .inr ⟨j, by omega, b, d, e⟩
        · rintro (h | ⟨j, a, b, d, e⟩)
          · exact .inl (.inl h)
          · rcases (by omega : j = i ∨ i + 1 ≤ j) with rfl | z
            · exact .inl (.inr e)
            · exact .inr ⟨j, z, b, d, e⟩
      | false =>
        rw [if_neg (by simp)]
        rw [tb, if_neg (by simp)] at nx
        rw [← nx, mg_mem k (i + 1) _ (by omega) (by omega)]
        constructor
        · rintro (h | ⟨j, a, b, d, e⟩)
          · exact .inl h
          · exact .inr ⟨j, by omega, b, d, e⟩
        · rintro (h | ⟨j, a, b, d, e⟩)
          · exact .inl h
          · rcases (by omega : j = i ∨ i + 1 ≤ j) with rfl | z
            · rw [tb] at d; cases d
            · exact .inr ⟨j, z, b, d, e⟩
    · rw [if_neg (by
        have := Nat.pow_le_pow_right (n := 2) (by decide) q
        omega)]
      refine ⟨fun h => .inl h, fun h => ?_⟩
      rcases h with h | ⟨j, a, b, _⟩
      · exact h
      · omega
theorem cov_low {w F m c j : Nat} (r : Fr w F m) (cw : c < 2 ^ w) (jw : j < w) (tf : F.testBit j = true) : (c ^^^ F % 2 ^ j) &&& (F % 2 ^ j ||| 2 ^ j) = 0 ↔ Cov F c j ∧ c.testBit j = false := by
  constructor
  · intro h
    have e : ∀ i, ((c ^^^ F % 2 ^ j) &&& (F % 2 ^ j ||| 2 ^ j)).testBit i = false := fun i => by rw [h, Nat.zero_testBit]
    simp only [Nat.testBit_and, Nat.testBit_xor, Nat.testBit_or, Nat.testBit_mod_two_pow, Nat.testBit_two_pow] at e
    constructor
    · intro i hi hf
      have := e i
      rw [decide_eq_true hi, hf] at this
      simpa using this
    · have := e j
      rw [decide_eq_true rfl, decide_eq_false (show ¬ j < j by omega)] at this
      simpa using this
  · rintro ⟨h1, h2⟩
    apply Nat.eq_of_testBit_eq
    intro i
    simp only [Nat.testBit_and, Nat.testBit_xor, Nat.testBit_or, Nat.testBit_mod_two_pow, Nat.testBit_two_pow, Nat.zero_testBit]
    by_cases g : i < j
    · rw [decide_eq_true g, decide_eq_false (show ¬ j = i by omega)]
      cases q : F.testBit i with
      | true => rw [h1 i g q]; rfl
      | false => simp
    · rw [decide_eq_false g]
      by_cases z : j = i
      · subst z; rw [h2]; rfl
      · rw [decide_eq_false z]; simp
theorem cov_all {w F m c : Nat} (r : Fr w F m) : (c ^^^ F) &&& F = 0 ↔ Cov F c w := by
  constructor
  · intro h i hi hf
    have : ((c ^^^ F) &&& F).testBit i = false := by rw [h, Nat.zero_testBit]
    simp only [Nat.testBit_and, Nat.testBit_xor] at this
    rw [hf] at this
    simpa using this
  · intro h
    apply Nat.eq_of_testBit_eq
    intro i
    simp only [Nat.testBit_and, Nat.testBit_xor, Nat.zero_testBit]
    cases q : F.testBit i with
    | true =>
      have : i < w := by
        rcases Nat.lt_or_ge i w with z | z
        · exact z
        · rw [nb_hi r.ff z] at q; cases q
      rw [h i this q]; rfl
    | false => simp
/-- the gaps of masks, at every width and size -/
theorem gap_mask {n c : Int} {w : Nat} (w2 : w ≤ 101) (n1 : 1 ≤ n) (c0 : 0 ≤ c) (cM : c < 2 ^ w) : GapsOk "mask" n (2 ^ w) c := by
  rw [c_pow] at cM ⊢
  obtain ⟨N, rfl⟩ : ∃ N : Nat, n = (N : Int) + 1 := ⟨(n - 1).toNat, by omega⟩
  obtain ⟨d, rfl⟩ : ∃ d : Nat, c = (d : Int) := ⟨c.toNat, by omega⟩
  have cw : d < 2 ^ w := by exact_mod_cast cM
  have pw : 0 < 2 ^ w := Nat.pos_of_ne_zero (by simp)
  have mw : N &&& (2 ^ w - 1) < 2 ^ w := by
    have := Nat.and_le_right (n := N) (m := 2 ^ w - 1)
    omega
  have r := Fr.of mw
  have ef : freeOf ((N : Int) + 1) ((2 ^ w : Nat) : Int) = ((2 ^ w - 1 - (N &&& (2 ^ w - 1)) : Nat) : Int) := by
    unfold freeOf
    rw [show (N : Int) + 1 - 1 = (N : Int) by omega, show ((2 ^ w : Nat) : Int) - 1 = ((2 ^ w - 1 : Nat) : Int) by omega, c_and]
    omega
  have sl : ∀ x : Nat, x < 2 ^ w → slotV "mask" ((N : Int) + 1) (x : Int) = .int ((x &&& (N &&& (2 ^ w - 1)) : Nat) : Int) := fun x hx => by
    rw [slotV_mask, show (N : Int) + 1 - 1 = (N : Int) by omega, c_and, Nat.and_comm N, ← Nat.and_assoc, Nat.and_two_pow_sub_one_eq_mod, Nat.mod_eq_of_lt hx]
  generalize N &&& (2 ^ w - 1) = m at r ef sl mw
  generalize hF : 2 ^ w - 1 - m = F at r ef
  have cm : ∀ h : Nat, ((d : Int) + (h : Int)) % ((2 ^ w : Nat) : Int) = (((d + h) % 2 ^ w : Nat) : Int) := fun h => by
    rw [show (d : Int) + (h : Int) = ((d + h : Nat) : Int) by omega]; rfl
  have ml : ∀ x, x % 2 ^ w < 2 ^ w := fun x => Nat.mod_lt _ pw
  have lessOk : ∀ j, j ≤ w → Cov F d j → ∀ h : Int, 1 ≤ h → h < ((2 ^ j : Nat) : Int) - ((F % 2 ^ j : Nat) : Int) → slotV "mask" ((N : Int) + 1) (((d : Int) + h) % ((2 ^ w : Nat) : Int)) ≠ slotV "mask" ((N : Int) + 1) (d : Int) := by
    intro j hj hc h h1 h2
    obtain ⟨k, rfl⟩ : ∃ k : Nat, h = (k : Int) := ⟨h.toNat, by omega⟩
    rw [cm, sl _ (ml _), sl _ cw]
    intro z
    exact r.lt hj hc (h := k) (by omega) (by omega) (by have := V.int.inj z; exact_mod_cast this)
  have isAt : ∀ j, j < w → F.testBit j = true → Cov F d j → d.testBit j = false → IsGap "mask" ((N : Int) + 1) ((2 ^ w : Nat) : Int) d (((2 ^ j : Nat) : Int) - ((F % 2 ^ j : Nat) : Int)) := by
    intro j hj hf hc hn
    obtain ⟨a1, a2⟩ := r.at cw hj hf hc hn
    have lj : F % 2 ^ j < 2 ^ j := Nat.mod_lt _ (Nat.pos_of_ne_zero (by simp))
    have lw : 2 ^ j < 2 ^ w := Nat.pow_lt_pow_right (by decide) hj
    refine ⟨by omega, by omega, ?_, lessOk j (by omega) hc⟩
    rw [show ((2 ^ j : Nat) : Int) - ((F % 2 ^ j : Nat) : Int) = ((2 ^ j - F % 2 ^ j : Nat) : Int) by omega, cm, sl _ (ml _), sl _ cw, Nat.mod_eq_of_lt a1, a2]
  have isAll : Cov F d w → IsGap "mask" ((N : Int) + 1) ((2 ^ w : Nat) : Int) d (((2 ^ w : Nat) : Int) - (F : Int)) := by
    intro hc
    have := r.ff
    have l := lessOk w (Nat.le_refl _) hc
    rw [Nat.mod_eq_of_lt r.ff] at l
    refine ⟨by omega, by omega, ?_, l⟩
    rw [show ((2 ^ w : Nat) : Int) - (F : Int) = ((2 ^ w - F : Nat) : Int) by omega, cm, sl _ (ml _), sl _ cw, r.all cw hc]
  have z1 : ∀ j, j < w → F % 2 ^ j ||| 2 ^ j < 2 ^ w ∧ F % 2 ^ j < 2 ^ w := fun j hj => by
    have lw : 2 ^ j < 2 ^ w := Nat.pow_lt_pow_right (by decide) hj
    have lj : F % 2 ^ j < 2 ^ j := Nat.mod_lt _ (Nat.pos_of_ne_zero (by simp))
    exact ⟨Nat.or_lt_two_pow (by omega) lw, by omega⟩
  have mem := mg_mem (w := w) (F := F) (c := d) 101 0 [] (by omega) (by omega)
  simp only [Nat.pow_zero, Nat.mod_one] at mem
  unfold GapsOk
  rw [gapsM_mask]
  unfold maskGaps
  rw [ef]
  constructor
  · intro x hx x0
    rcases List.mem_append.mp hx with h | h
    · rcases (mem x).mp h with h | ⟨j, _, jw, hf, rfl⟩
      · cases h
      · have := (stb_zero (z1 j jw).1 (z1 j jw).2 cw).mp x0
        rw [cov_low r cw jw hf] at this
        exact isAt j jw hf this.1 this.2
    · rw [List.mem_singleton] at h
      subst h
      have := (stb_zero r.ff r.ff cw).mp x0
      rw [cov_all r] at this
      exact isAll this
  · rcases r.cov d w (Nat.le_refl _) with ⟨j, jw, hf, h1, h2⟩ | h
    · exact ⟨_, List.mem_append.mpr (.inl ((mem _).mpr (.inr ⟨j, Nat.zero_le _, jw, hf, rfl⟩))), (stb_zero (z1 j jw).1 (z1 j jw).2 cw).mpr ((cov_low r cw jw hf).mpr ⟨h1, h2⟩)⟩
    · exact ⟨_, List.mem_append.mpr (.inr (List.mem_singleton.mpr rfl)), (stb_zero r.ff r.ff cw).mpr ((cov_all r).mpr h)⟩

theorem and_nn {a b : Int} (ha : 0 ≤ a) (hb : 0 ≤ b) : 0 ≤ Builtin.bitAnd a b ∧ Builtin.bitAnd a b ≤ b := by
  obtain ⟨m, rfl⟩ := Int.eq_ofNat_of_zero_le ha
  obtain ⟨n, rfl⟩ := Int.eq_ofNat_of_zero_le hb
  have e : Builtin.bitAnd (m : Int) (n : Int) = ((m &&& n : Nat) : Int) := rfl
  rw [e]
  exact ⟨by omega, by exact_mod_cast Nat.and_le_right⟩
theorem xor_nn {a b : Int} (ha : 0 ≤ a) (hb : 0 ≤ b) : 0 ≤ Builtin.bitXor a b := Bits.bitXor_nonneg ha hb
theorem or_nn {a b : Int} (ha : 0 ≤ a) (hb : 0 ≤ b) : 0 ≤ Builtin.bitOr a b := Bits.bitOr_nonneg ha hb
theorem intBits_ok {u : Int} (h : 0 < u) (g : u < 2 ^ 101) : 1 ≤ Builtin.Int.intBits u ∧ Builtin.Int.intBits u ≤ 101 := by
  unfold Builtin.Int.intBits
  have h0 : (u == 0) = false := by rw [beq_eq_false_iff_ne]; omega
  rw [h0]
  have : u.natAbs.log2 < 101 := (Nat.log2_lt (by omega)).mpr (by omega)
  simp only [Bool.false_eq_true, if_false]
  omega
theorem free_ok {n M : Int} (n1 : 1 ≤ n) (m1 : 1 ≤ M) (h : M ≤ 2 ^ 100) : 0 ≤ freeOf n M ∧ freeOf n M < 2 ^ 101 := by
  have := and_nn (a := n - 1) (b := M - 1) (by omega) (by omega)
  unfold freeOf
  omega
theorem pow2s (i : Nat) : (2 : Int) ^ (i + 1) = 2 * 2 ^ i := by rw [Int.pow_succ, Int.mul_comm]
theorem pow_mono {i j : Nat} (h : i ≤ j) : (2 : Int) ^ i ≤ 2 ^ j := by
  have : (2 : Nat) ^ i ≤ 2 ^ j := Nat.pow_le_pow_right (by decide) h
  exact_mod_cast this
theorem mg_in {free M c l b : Int} {acc : List (Int × Int)} {i : Nat} (hi : i ≤ 100) (h : b < M) (g : Builtin.bitAnd free b ≠ 0) :
    mgLoop free M c (101 - i) l b acc = mgLoop free M c (101 - (i + 1)) (Builtin.bitOr l b) (2 * b) (acc ++ [(stb M (Builtin.bitOr l b) l c, b - l)]) := by
  rw [show 101 - i = (101 - (i + 1)) + 1 by omega]
  conv => lhs; unfold mgLoop
  rw [if_pos h, if_pos g]
theorem mg_out {free M c l b : Int} {acc : List (Int × Int)} {i : Nat} (hi : i ≤ 100) (h : b < M) (g : Builtin.bitAnd free b = 0) :
    mgLoop free M c (101 - i) l b acc = mgLoop free M c (101 - (i + 1)) l (2 * b) acc := by
  rw [show 101 - i = (101 - (i + 1)) + 1 by omega]
  conv => lhs; unfold mgLoop
  rw [if_pos h, if_neg (fun z => z g)]
theorem mg_end {free M c l b : Int} {acc : List (Int × Int)} {i : Nat} (hi : i ≤ 100) (h : ¬ b < M) : mgLoop free M c (101 - i) l b acc = acc := by
  rw [show 101 - i = (101 - (i + 1)) + 1 by omega]
  unfold mgLoop
  rw [if_neg h]
local macro_rules | `(tactic| walk_at "bT") => `(tactic| first | exact bne_iff_ne.mpr (by with_reducible assumption) | fail "bT")
local macro_rules | `(tactic| walk_at "bF") => `(tactic| first | exact bne_eq_false_iff_eq.mpr (by with_reducible assumption) | fail "bF")
theorem or_lt {a b : Int} {k : Nat} (ha : 0 ≤ a) (hb : 0 ≤ b) (h1 : a < 2 ^ k) (h2 : b < 2 ^ k) : Builtin.bitOr a b < 2 ^ k := by
  rw [L2.bitOr_nn ha hb]
  obtain ⟨m, rfl⟩ := Int.eq_ofNat_of_zero_le ha
  obtain ⟨n, rfl⟩ := Int.eq_ofNat_of_zero_le hb
  have a1 : m < 2 ^ k := by exact_mod_cast h1
  have a2 : n < 2 ^ k := by exact_mod_cast h2
  exact_mod_cast Nat.or_lt_two_pow a1 a2

theorem IsScheme.keepN {A : Adr} {H H' : Hp} {p : Addr} {t : Pt} (S : ∀ b o, H b = some o → (∀ xs, o ≠ .lst xs) → H' b = some o) : IsScheme A H p t → IsScheme A H' p t := by
  rintro ⟨dx, d, vw, vf, h1, h2, h3, h4⟩
  refine ⟨dx, d, vw, vf, S _ _ h1 (fun _ z => by cases z), S _ _ h2 (fun _ z => by cases z), ?_, ?_⟩
  · revert h3
    cases t.wrap with
    | width w => exact fun z => z
    | form s b => rintro ⟨q, dq, e, h⟩; exact ⟨q, dq, e, S _ _ h (fun _ z => by cases z)⟩
  · revert h4
    cases t.full with
    | plain k => rintro ⟨q, e, h⟩; exact ⟨q, e, S _ _ h (fun _ z => by cases z)⟩
    | lim k g s b => rintro ⟨q, r, dr, e, h, h'⟩; exact ⟨q, r, dr, e, S _ _ h (fun _ z => by cases z), S _ _ h' (fun _ z => by cases z)⟩
theorem modV_le {t : Wr} {n : Int} (h : WfW t) (n1 : 1 ≤ n) (n2 : n ≤ 1000000000000000000000000000000) : modV t n ≤ 10000000000000000000000000000000 := by
  cases t with
  | width w =>
    have h : 1 ≤ w ∧ w ≤ 100 := h
    show 1 * 2 ^ w.toNat ≤ 10000000000000000000000000000000
    have e := pow_le (i := w.toNat) (by omega)
    omega
  | form s b =>
    have h : 0 ≤ s ∧ s ≤ 4 ∧ -20 ≤ b ∧ b ≤ 20 := h
    show s * n + b ≤ 10000000000000000000000000000000
    have : s * n ≤ 4 * 1000000000000000000000000000000 := Int.mul_le_mul h.2.1 n2 (by omega) (by omega)
    omega
theorem mask_pow {t : Pt} {n : Int} (h : Wf t) (hs : t.slot = "mask") : ∃ w : Nat, w ≤ 100 ∧ modV t.wrap n = 2 ^ w := by
  have hm := h.m
  have hw := h.w
  cases e : t.wrap with
  | width w =>
    rw [e] at hw
    have hw : 1 ≤ w ∧ w ≤ 100 := hw
    exact ⟨w.toNat, by omega, by show 1 * 2 ^ w.toNat = _; rw [Int.one_mul]⟩
  | form s b => exact absurd hs (hm s b e)
theorem neSelf (x : V) : (!decide (x = x)) = false := by rw [decide_eq_true rfl]; rfl
theorem len_ok {t : Pt} {n c : Int} (h : Wf t) : (gapsM t.slot n (modV t.wrap n) c).length ≤ 900 := by
  have hl : ∀ ts : List (Int × Int × Int), ts.length ≤ 3 → (gapsOf ts (modV t.wrap n) c).length ≤ 900 := fun ts z => by unfold gapsOf; rw [List.length_map]; omega
  rcases slot3 h.s with e | e | e <;> rw [e]
  · rw [gapsM_rest]; exact hl _ (rest_len _ _)
  · rw [gapsM_mask]; have := mask_len n (modV t.wrap n) c; omega
  · rw [gapsM_off]; exact hl _ (off_len _ _)
theorem gaps_ok {t : Pt} {n c : Int} (h : Wf t) (n1 : 1 ≤ n) (c1 : 0 ≤ c) (c2 : c < modV t.wrap n) (e : slotV t.slot n c ≠ .non) : GapsOk t.slot n (modV t.wrap n) c := by
  rcases slot3 h.s with z | z | z
  · rw [z]; exact gap_rest n1 c1 c2
  · obtain ⟨w, w1, em⟩ := mask_pow (n := n) h z
    rw [em] at c2 ⊢
    rw [z]
    exact gap_mask (by omega) n1 c1 c2
  · rw [z] at e ⊢; exact gap_off n1 c1 c2 e
theorem modG (x : Int) {n : Int} (h : 1 ≤ n) : 0 ≤ x % n ∧ x % n < n := ⟨Int.emod_nonneg _ (by omega), Int.emod_lt_of_pos _ (by omega)⟩
local macro_rules | `(tactic| walk_at "sz") => `(tactic| first | ((with_reducible apply L2.small1000); (simp only [List.length_append, List.length_cons, List.length_nil]; omega)) | fail "sz")
theorem min30 {n : Int} (h : n ≤ 1000000000000000000000000000000) : (if (10 : Int) ^ 30 < n then (10 : Int) ^ 30 else n) = n := by
  have e : (10 : Int) ^ 30 = 1000000000000000000000000000000 := by decide +kernel
  rw [e]
  exact if_neg (by omega)
theorem chainB {a b c : Int} (h : (decide (a < b) && decide (b < c)) = true) : a < b ∧ b < c := by simpa using h
/-- what the gaps seen from the counter 0 tell of the whole ring -/
structure Firsts (k : Str) (n M : Int) : Prop where
  a : ∀ x ∈ gapsM k n M 0, 0 ≤ x.1 ∧ x.1 < M ∧ IsGap k n M x.1 x.2
  b : ∀ c, 0 ≤ c → c < M → ∃ x ∈ gapsM k n M 0, x.1 ≤ c ∧ IsGap k n M c x.2
theorem span_first {f e M : Int} (f0 : 0 ≤ f) (fe : f < e) (eM : e ≤ M) : stepsTo f e M 0 = f := by
  unfold stepsTo
  split
  · omega
  · rw [Int.emod_eq_of_lt (by omega) (by omega)]; omega
/-- rings whose gaps are told by spans -/
theorem firsts_spans {k : Str} {n M : Int} {ts : List (Int × Int × Int)} (hg : ∀ c, gapsM k n M c = gapsOf ts M c) (ok : ∀ c, 0 ≤ c → c < M → GapsOk k n M c)
    (sp : ∀ t ∈ ts, 0 ≤ t.1 ∧ t.1 < t.2.1 ∧ t.2.1 ≤ M) : Firsts k n M := by
  have one : ∀ t ∈ ts, ∀ c, 0 ≤ c → c < M → t.1 ≤ c → c < t.2.1 → IsGap k n M c t.2.2 := fun t ht c c0 cM h1 h2 =>
    (ok c c0 cM).1 (stepsTo t.1 t.2.1 M c, t.2.2) (by rw [hg]; exact List.mem_map.mpr ⟨t, ht, rfl⟩) (steps_in ⟨h1, h2⟩)
  constructor
  · intro x hx
    rw [hg] at hx
    obtain ⟨t, ht, rfl⟩ := List.mem_map.mp hx
    obtain ⟨h1, h2, h3⟩ := sp t ht
    show 0 ≤ stepsTo t.1 t.2.1 M 0 ∧ stepsTo t.1 t.2.1 M 0 < M ∧ IsGap k n M (stepsTo t.1 t.2.1 M 0) t.2.2
    rw [span_first h1 h2 h3]
    exact ⟨h1, by omega, one t ht _ h1 (by omega) (Int.le_refl _) h2⟩
  · intro c c0 cM
    obtain ⟨x, hx, x0⟩ := (ok c c0 cM).2
    rw [hg] at hx
    obtain ⟨t, ht, rfl⟩ := List.mem_map.mp hx
    obtain ⟨h1, h2, h3⟩ := sp t ht
    have := steps0 h2 h1 (by omega) c0 cM x0
    refine ⟨(stepsTo t.1 t.2.1 M 0, t.2.2), by rw [hg]; exact List.mem_map.mpr ⟨t, ht, rfl⟩, ?_, one t ht c c0 cM this.1 this.2⟩
    show stepsTo t.1 t.2.1 M 0 ≤ c
    rw [span_first h1 h2 h3]
    exact this.1
theorem firsts_rest {n M : Int} (n1 : 1 ≤ n) (m1 : 1 ≤ M) : Firsts "rest" n M := by
  refine firsts_spans (gapsM_rest n M) (fun c c0 cM => gap_rest n1 c0 cM) (fun t ht => ?_)
  have hl0 := Int.emod_nonneg M (show n ≠ 0 by omega)
  have hl1 := Int.emod_lt_of_pos M (show 0 < n by omega)
  unfold restSpans at ht
  split at ht
  · rw [List.mem_singleton] at ht; subst ht; exact ⟨Int.le_refl _, by show 0 < M; omega, Int.le_refl _⟩
  · split at ht
    · rw [List.mem_singleton] at ht; subst ht; exact ⟨Int.le_refl _, by show 0 < M; omega, Int.le_refl _⟩
    · simp only [List.mem_cons, List.not_mem_nil, or_false] at ht
      rcases ht with rfl | rfl | rfl
      · exact ⟨Int.le_refl _, by show 0 < M - n; omega, by show M - n ≤ M; omega⟩
      · exact ⟨by show 0 ≤ M - n; omega, by show M - n < M - M % n; omega, by show M - M % n ≤ M; omega⟩
      · exact ⟨by show 0 ≤ M - M % n; omega, by show M - M % n < M; omega, Int.le_refl _⟩
theorem firsts_off {n M : Int} (n1 : 1 ≤ n) (m1 : 1 ≤ M) (h2 : M ≤ 2 * n) : Firsts "off" n M := by
  refine firsts_spans (gapsM_off n M) (fun c c0 cM => gap_off n1 c0 cM ?_) (fun t ht => ?_)
  · rcases Int.lt_or_le c n with q | q
    · rw [off_lo q]; intro z; cases z
    · rw [off_hi (by omega) (by omega)]; intro z; cases z
  unfold offSpans at ht
  split at ht
  · rw [List.mem_singleton] at ht; subst ht; exact ⟨Int.le_refl _, by show 0 < M; omega, Int.le_refl _⟩
  · split at ht
    · simp only [List.mem_cons, List.not_mem_nil, or_false] at ht
      rcases ht with rfl | rfl | rfl
      · exact ⟨Int.le_refl _, by show 0 < M - n; omega, by show M - n ≤ M; omega⟩
      · exact ⟨by show 0 ≤ M - n; omega, by show M - n < n; omega, by show n ≤ M; omega⟩
      · exact ⟨by show 0 ≤ n; omega, by show n < M; omega, Int.le_refl _⟩
    · simp only [List.mem_cons, List.not_mem_nil, or_false] at ht
      rcases ht with rfl | rfl
      · exact ⟨Int.le_refl _, by show 0 < n; omega, by show n ≤ M; omega⟩
      · exact ⟨by show 0 ≤ n; omega, by show n < 2 * n; omega, by show 2 * n ≤ M; omega⟩
theorem nb_sub {w bits : Nat} (h : bits ≠ 0) : bits &&& (2 * 2 ^ bits.log2 - 1) = bits := by
  rw [show 2 * 2 ^ bits.log2 - 1 = 2 ^ (bits.log2 + 1) - 1 by rw [Nat.pow_succ, Nat.mul_comm], Nat.and_two_pow_sub_one_eq_mod, Nat.mod_eq_of_lt Nat.lt_log2_self]
/-- steps from the counter 0 -/
theorem stb_from0 {w mask bits : Nat} (hb : bits < 2 ^ w) (sub : bits &&& mask = bits) : stb ((2 ^ w : Nat) : Int) mask bits 0 = bits := by
  unfold stb
  rw [show (0 : Int) = ((0 : Nat) : Int) from rfl, c_xor, c_and, Nat.zero_xor, sub]
  rcases Decidable.em (bits = 0) with h | h
  · rw [if_pos (by rw [h])]; rw [h]
  · rw [if_neg (by intro z; exact h (by exact_mod_cast z)), c_bits h, Int.one_mul, c_pow, c_and, Nat.zero_and, if_neg (by simp)]
    have p : 0 < 2 ^ bits.log2 := Nat.two_pow_pos _
    rw [show (2 : Int) * ((2 ^ bits.log2 : Nat) : Int) - 1 = ((2 * 2 ^ bits.log2 - 1 : Nat) : Int) by omega, c_or, c_and, nb_sub (w := w) h, Nat.zero_or,
      show ((2 * 2 ^ bits.log2 - 1 : Nat) : Int) - ((2 * 2 ^ bits.log2 - 1 : Nat) : Int) = ((0 : Nat) : Int) by omega, c_or, Nat.zero_or]
    rw [show ((bits : Nat) : Int) - ((0 : Nat) : Int) = ((bits : Nat) : Int) by omega]
    exact Int.emod_eq_of_lt (by omega) (by exact_mod_cast hb)
theorem mask_data {n : Int} (w : Nat) (n1 : 1 ≤ n) : ∃ F m N : Nat, n = (N : Int) + 1 ∧ m = N &&& (2 ^ w - 1) ∧ Fr w F m ∧ freeOf n ((2 ^ w : Nat) : Int) = (F : Int) := by
  obtain ⟨N, rfl⟩ : ∃ N : Nat, n = (N : Int) + 1 := ⟨(n - 1).toNat, by omega⟩
  have pw : 0 < 2 ^ w := Nat.two_pow_pos _
  have mw : N &&& (2 ^ w - 1) < 2 ^ w := by
    have := Nat.and_le_right (n := N) (m := 2 ^ w - 1)
    omega
  refine ⟨2 ^ w - 1 - (N &&& (2 ^ w - 1)), _, N, rfl, rfl, Fr.of mw, ?_⟩
  unfold freeOf
  rw [show (N : Int) + 1 - 1 = (N : Int) by omega, show ((2 ^ w : Nat) : Int) - 1 = ((2 ^ w - 1 : Nat) : Int) by omega, c_and]
  omega
theorem mask_mem {n : Int} {w F c : Nat} (w2 : w ≤ 101) (ef : freeOf n ((2 ^ w : Nat) : Int) = (F : Int)) (x : Int × Int) :
    x ∈ maskGaps n ((2 ^ w : Nat) : Int) c ↔ (∃ j, j < w ∧ F.testBit j = true ∧ x = prM w F c j) ∨ x = (stb ((2 ^ w : Nat) : Int) F F c, ((2 ^ w : Nat) : Int) - (F : Int)) := by
  have mem := mg_mem (w := w) (F := F) (c := c) 101 0 [] (by omega) (by omega)
  simp only [Nat.pow_zero, Nat.mod_one] at mem
  unfold maskGaps
  rw [ef, List.mem_append, List.mem_singleton]
  constructor
  · rintro (h | h)
    · rcases (mem x).mp h with h | ⟨j, _, jw, hf, e⟩
      · cases h
      · exact .inl ⟨j, jw, hf, e⟩
    · exact .inr h
  · rintro (⟨j, jw, hf, e⟩ | h)
    · exact .inl ((mem x).mpr (.inr ⟨j, Nat.zero_le _, jw, hf, e⟩))
    · exact .inr h
theorem low_lt {w F j : Nat} (jw : j < w) : F % 2 ^ j < 2 ^ w ∧ F % 2 ^ j ||| 2 ^ j < 2 ^ w := by
  have lw : 2 ^ j < 2 ^ w := Nat.pow_lt_pow_right (by decide) jw
  have lj : F % 2 ^ j < 2 ^ j := Nat.mod_lt _ (Nat.two_pow_pos _)
  exact ⟨by omega, Nat.or_lt_two_pow (by omega) lw⟩
theorem low_cov (F j : Nat) : Cov F (F % 2 ^ j) j ∧ (F % 2 ^ j).testBit j = false := by
  refine ⟨fun i hi hf => ?_, ?_⟩
  · rw [Nat.testBit_mod_two_pow, decide_eq_true hi, hf]; rfl
  · rw [Nat.testBit_mod_two_pow, decide_eq_false (Nat.lt_irrefl _)]; rfl
theorem cov_le {F c j : Nat} (h : Cov F c j) : F % 2 ^ j ≤ c := by
  have e : F % 2 ^ j &&& c = F % 2 ^ j := by
    apply Nat.eq_of_testBit_eq
    intro i
    rw [Nat.testBit_and, Nat.testBit_mod_two_pow]
    by_cases g : i < j
    · cases q : F.testBit i with
      | true => rw [h i g q]; simp
      | false => simp
    · rw [decide_eq_false g]; rfl
  have := Nat.and_le_right (n := F % 2 ^ j) (m := c)
  omega
theorem mask_at {n : Int} {w F m c j : Nat} (w2 : w ≤ 101) (n1 : 1 ≤ n) (ef : freeOf n ((2 ^ w : Nat) : Int) = (F : Int)) (r : Fr w F m) (cw : c < 2 ^ w) (jw : j < w) (hf : F.testBit j = true) (h : Cov F c j ∧ c.testBit j = false) :
    IsGap "mask" n ((2 ^ w : Nat) : Int) c (((2 ^ j : Nat) : Int) - ((F % 2 ^ j : Nat) : Int)) := by
  have g := gap_mask (c := (c : Int)) w2 n1 (by omega) (by rw [c_pow]; exact_mod_cast cw)
  rw [c_pow] at g
  unfold GapsOk at g
  rw [gapsM_mask] at g
  exact g.1 (prM w F c j) ((mask_mem w2 ef _).mpr (.inl ⟨j, jw, hf, rfl⟩)) ((stb_zero (low_lt jw).2 (low_lt jw).1 cw).mpr ((cov_low r cw jw hf).mpr h))
theorem mask_all {n : Int} {w F m c : Nat} (w2 : w ≤ 101) (n1 : 1 ≤ n) (ef : freeOf n ((2 ^ w : Nat) : Int) = (F : Int)) (r : Fr w F m) (cw : c < 2 ^ w) (h : Cov F c w) :
    IsGap "mask" n ((2 ^ w : Nat) : Int) c (((2 ^ w : Nat) : Int) - (F : Int)) := by
  have g := gap_mask (c := (c : Int)) w2 n1 (by omega) (by rw [c_pow]; exact_mod_cast cw)
  rw [c_pow] at g
  unfold GapsOk at g
  rw [gapsM_mask] at g
  exact g.1 (stb ((2 ^ w : Nat) : Int) F F c, ((2 ^ w : Nat) : Int) - (F : Int)) ((mask_mem w2 ef _).mpr (.inr rfl)) ((stb_zero r.ff r.ff cw).mpr ((cov_all r).mpr h))
theorem pr0 {w F j : Nat} (jw : j < w) : (prM w F 0 j).1 = ((F % 2 ^ j : Nat) : Int) := by
  unfold prM
  show stb ((2 ^ w : Nat) : Int) ((F % 2 ^ j ||| 2 ^ j : Nat) : Int) ((F % 2 ^ j : Nat) : Int) 0 = _
  refine stb_from0 (low_lt jw).1 ?_
  apply Nat.eq_of_testBit_eq
  intro i
  rw [Nat.testBit_and, Nat.testBit_or]
  cases (F % 2 ^ j).testBit i <;> simp
theorem firsts_mask {n : Int} {w : Nat} (w2 : w ≤ 101) (n1 : 1 ≤ n) : Firsts "mask" n (2 ^ w) := by
  rw [c_pow]
  obtain ⟨F, m, N, -, -, r, ef⟩ := mask_data w n1
  have rf := r.ff
  have s0 : stb ((2 ^ w : Nat) : Int) F F ((0 : Nat) : Int) = F := stb_from0 r.ff (Nat.and_self F)
  constructor
  · intro x hx
    rw [gapsM_mask] at hx
    rcases (mask_mem (c := 0) w2 ef x).mp hx with ⟨j, jw, hf, rfl⟩ | rfl
    · have lw := (low_lt (F := F) jw).1
      have e : (prM w F 0 j).2 = ((2 ^ j : Nat) : Int) - ((F % 2 ^ j : Nat) : Int) := rfl
      rw [pr0 jw, e]
      exact ⟨by omega, by exact_mod_cast lw, mask_at w2 n1 ef r lw jw hf (low_cov F j)⟩
    · show 0 ≤ stb ((2 ^ w : Nat) : Int) F F ((0 : Nat) : Int) ∧ stb ((2 ^ w : Nat) : Int) F F ((0 : Nat) : Int) < _ ∧ IsGap "mask" n _ (stb ((2 ^ w : Nat) : Int) F F ((0 : Nat) : Int)) _
      rw [s0]
      exact ⟨by omega, by exact_mod_cast rf, mask_all w2 n1 ef r rf fun i _ h => h⟩
  · intro c c0 cM
    obtain ⟨d, rfl⟩ : ∃ d : Nat, c = (d : Int) := ⟨c.toNat, by omega⟩
    have cw : d < 2 ^ w := by exact_mod_cast cM
    rw [gapsM_mask]
    rcases r.cov d w (Nat.le_refl _) with ⟨j, jw, hf, h⟩ | h
    · refine ⟨prM w F 0 j, (mask_mem (c := 0) w2 ef _).mpr (.inl ⟨j, jw, hf, rfl⟩), ?_, mask_at w2 n1 ef r cw jw hf h⟩
      rw [pr0 jw]
      exact_mod_cast cov_le h.1
    · refine ⟨(stb ((2 ^ w : Nat) : Int) F F ((0 : Nat) : Int), ((2 ^ w : Nat) : Int) - (F : Int)), (mask_mem (c := 0) w2 ef _).mpr (.inr rfl), ?_, mask_all w2 n1 ef r cw h⟩
      show stb ((2 ^ w : Nat) : Int) F F ((0 : Nat) : Int) ≤ _
      rw [s0]
      have := cov_le h
      rw [Nat.mod_eq_of_lt rf] at this
      exact_mod_cast this
def winV (k : Str) (n M : Int) : Int := if k = "mask" then (if Builtin.bitAnd n (-n) < M then Builtin.bitAnd n (-n) else M) else if M ≤ n then M else if M % n = 0 then n else M % n
theorem winV_mask (n M : Int) : winV "mask" n M = if Builtin.bitAnd n (-n) < M then Builtin.bitAnd n (-n) else M := if_pos rfl
structure Least (k : Str) (n M : Int) : Prop where
  a : ∃ x ∈ gapsM k n M 0, x.2 = winV k n M
  b : ∀ x ∈ gapsM k n M 0, winV k n M ≤ x.2
theorem least_spans {k : Str} {n M : Int} {ts : List (Int × Int × Int)} (hg : ∀ c, gapsM k n M c = gapsOf ts M c) (h1 : ∃ t ∈ ts, t.2.2 = winV k n M) (h2 : ∀ t ∈ ts, winV k n M ≤ t.2.2) : Least k n M := by
  constructor
  · obtain ⟨t, ht, e⟩ := h1
    exact ⟨(stepsTo t.1 t.2.1 M 0, t.2.2), by rw [hg]; exact List.mem_map.mpr ⟨t, ht, rfl⟩, e⟩
  · intro x hx
    rw [hg] at hx
    obtain ⟨t, ht, rfl⟩ := List.mem_map.mp hx
    exact h2 t ht
theorem win_rest {k : Str} (n M : Int) (h : ¬ k = "mask") : winV k n M = if M ≤ n then M else if M % n = 0 then n else M % n := if_neg h
theorem rest_nm : ¬ (("rest" : Str) = "mask") := by decide +kernel
theorem off_nm : ¬ (("off" : Str) = "mask") := by decide +kernel
theorem least_rest {n M : Int} (n1 : 1 ≤ n) (m1 : 1 ≤ M) : Least "rest" n M := by
  have hl0 := Int.emod_nonneg M (show n ≠ 0 by omega)
  have hl1 := Int.emod_lt_of_pos M (show 0 < n by omega)
  refine least_spans (gapsM_rest n M) ?_ ?_ <;> rw [win_rest n M rest_nm] <;> unfold restSpans
  · split
    · exact ⟨_, List.mem_cons_self .., rfl⟩
    · split
      · exact ⟨_, List.mem_cons_self .., rfl⟩
      · exact ⟨_, List.mem_cons_of_mem _ (List.mem_cons_of_mem _ (List.mem_cons_self ..)), rfl⟩
  · intro t ht
    split at ht
    · rename_i q; rw [List.mem_singleton] at ht; subst ht; rw [if_pos q]; exact Int.le_refl _
    · rename_i q
      rw [if_neg q]
      split at ht
      · rename_i g; rw [List.mem_singleton] at ht; subst ht; rw [if_pos g]; exact Int.le_refl _
      · rename_i g
        rw [if_neg g]
        simp only [List.mem_cons, List.not_mem_nil, or_false] at ht
        rcases ht with rfl | rfl | rfl
        · show M % n ≤ n; omega
        · show M % n ≤ n + M % n; omega
        · exact Int.le_refl _
theorem least_off {n M : Int} (n1 : 1 ≤ n) (m1 : 1 ≤ M) (h2 : M ≤ 2 * n) : Least "off" n M := by
  have key : ¬ M ≤ n → M < 2 * n → M % n = M - n := fun a b => by
    rw [show M = (M - n) + n by omega, Int.add_emod_right, Int.emod_eq_of_lt (by omega) (by omega)]; omega
  have key2 : M = 2 * n → M % n = 0 := fun a => by rw [a, Int.mul_comm]; exact Int.mul_emod_right n 2
  refine least_spans (gapsM_off n M) ?_ ?_ <;> rw [win_rest n M off_nm] <;> unfold offSpans
  · split
    · exact ⟨_, List.mem_cons_self .., rfl⟩
    · rename_i q
      split
      · rename_i g
        rw [key q g, if_neg (by omega)]
        exact ⟨_, List.mem_cons_of_mem _ (List.mem_cons_of_mem _ (List.mem_cons_self ..)), rfl⟩
      · rw [key2 (by omega), if_pos rfl]
        exact ⟨_, List.mem_cons_self .., rfl⟩
  · intro t ht
    split at ht
    · rename_i q; rw [List.mem_singleton] at ht; subst ht; rw [if_pos q]; exact Int.le_refl _
    · rename_i q
      rw [if_neg q]
      split at ht
      · rename_i g
        rw [key q g, if_neg (by omega)]
        simp only [List.mem_cons, List.not_mem_nil, or_false] at ht
        rcases ht with rfl | rfl | rfl
        · show M - n ≤ n; omega
        · show M - n ≤ M; omega
        · exact Int.le_refl _
      · rw [key2 (by omega), if_pos rfl]
        simp only [List.mem_cons, List.not_mem_nil, or_false] at ht
        rcases ht with rfl | rfl
        · exact Int.le_refl _
        · show n ≤ M - n; omega
theorem two_odd (n : Nat) (h : 0 < n) : ∃ a b, n = 2 ^ a * (2 * b + 1) := by
  induction n using Nat.strongRecOn with
  | ind n ih =>
    rcases Nat.mod_two_eq_zero_or_one n with p | p
    · obtain ⟨a, b, e⟩ := ih (n / 2) (by omega) (by omega)
      refine ⟨a + 1, b, ?_⟩
      rw [Nat.pow_succ, Nat.mul_assoc, Nat.mul_left_comm, ← e]
      omega
    · exact ⟨0, n / 2, by rw [Nat.pow_zero]; omega⟩
theorem odd_bits {N a b : Nat} (h : N + 1 = 2 ^ a * (2 * b + 1)) : (∀ i, i < a → N.testBit i = true) ∧ N.testBit a = false := by
  have p : 0 < 2 ^ a := Nat.two_pow_pos _
  have e : N = 2 ^ a * (2 * b) + (2 ^ a - 1) := by
    rw [Nat.mul_add, Nat.mul_one] at h; omega
  constructor
  · intro i hi
    have := Nat.testBit_mod_two_pow N a i
    rw [e, Nat.mul_add_mod, Nat.mod_eq_of_lt (by omega), Nat.testBit_two_pow_sub_one, decide_eq_true hi, Bool.true_and, ← e] at this
    exact this.symm
  · rw [Nat.testBit_eq_decide_div_mod_eq, e, Nat.mul_add_div p, Nat.div_eq_of_lt (by omega), Nat.add_zero, Nat.mul_mod_right]
    rfl
theorem low_zero {F a : Nat} (h : ∀ i, i < a → F.testBit i = false) : F % 2 ^ a = 0 := by
  apply Nat.eq_of_testBit_eq
  intro i
  rw [Nat.testBit_mod_two_pow, Nat.zero_testBit]
  by_cases g : i < a
  · rw [h i g]; simp
  · rw [decide_eq_false g]; rfl
theorem gap_ge {F a j : Nat} (h : F % 2 ^ a = 0) (aj : a ≤ j) : F % 2 ^ j + 2 ^ a ≤ 2 ^ j := by
  have l : F % 2 ^ j < 2 ^ j := Nat.mod_lt _ (Nat.two_pow_pos _)
  have d1 : 2 ^ a ∣ 2 ^ j := Nat.pow_dvd_pow 2 aj
  have d2 : 2 ^ a ∣ F % 2 ^ j := by
    apply Nat.dvd_of_mod_eq_zero
    rw [Nat.mod_mod_of_dvd _ d1, h]
  have := Nat.le_of_dvd (by omega) (Nat.dvd_sub d1 d2)
  omega
theorem least_mask {n : Int} {w : Nat} (w2 : w ≤ 101) (n1 : 1 ≤ n) : Least "mask" n (2 ^ w) := by
  rw [c_pow]
  obtain ⟨F, m, N, en, em, r, ef⟩ := mask_data w n1
  obtain ⟨a, b, eo⟩ := two_odd (N + 1) (by omega)
  obtain ⟨o1, o2⟩ := odd_bits eo
  have lb : Builtin.bitAnd n (-n) = ((2 ^ a : Nat) : Int) := by
    have e : n = 2 ^ a * (2 * (b : Int) + 1) := by
      rw [en, c_pow]
      have : ((N + 1 : Nat) : Int) = ((2 ^ a * (2 * b + 1) : Nat) : Int) := by rw [eo]
      rw [Int.natCast_mul, show ((2 * b + 1 : Nat) : Int) = 2 * (b : Int) + 1 by omega] at this
      rw [← this]
      omega
    rw [e, PySem.W.kbt_low, c_pow]
  have fb : ∀ i, F.testBit i = (decide (i < w) && !N.testBit i) := fun i => by
    rw [r.bb, em, Nat.testBit_and, Nat.testBit_two_pow_sub_one]
    cases decide (i < w) <;> cases N.testBit i <;> rfl
  have fl : ∀ i, i < a → F.testBit i = false := fun i hi => by rw [fb, o1 i hi]; simp
  have f0 := low_zero fl
  rcases Nat.lt_or_ge a w with q | q
  · have lt : 2 ^ a < 2 ^ w := Nat.pow_lt_pow_right (by decide) q
    have ew : winV "mask" n ((2 ^ w : Nat) : Int) = ((2 ^ a : Nat) : Int) := by
      rw [winV_mask, lb, if_pos (by exact_mod_cast lt)]
    have fa : F.testBit a = true := by rw [fb, o2, decide_eq_true q]; rfl
    constructor <;> rw [ew, gapsM_mask]
    · refine ⟨prM w F 0 a, (mask_mem (c := 0) w2 ef _).mpr (.inl ⟨a, q, fa, rfl⟩), ?_⟩
      show ((2 ^ a : Nat) : Int) - ((F % 2 ^ a : Nat) : Int) = _
      rw [f0]; omega
    · intro x hx
      rcases (mask_mem (c := 0) w2 ef x).mp hx with ⟨j, jw, hf, rfl⟩ | rfl
      · have aj : a ≤ j := by
          rcases Nat.lt_or_ge j a with z | z
          · rw [fl j z] at hf; cases hf
          · exact z
        have := gap_ge f0 aj
        show ((2 ^ a : Nat) : Int) ≤ ((2 ^ j : Nat) : Int) - ((F % 2 ^ j : Nat) : Int)
        omega
      · have := gap_ge f0 (Nat.le_of_lt q)
        rw [Nat.mod_eq_of_lt r.ff] at this
        show ((2 ^ a : Nat) : Int) ≤ ((2 ^ w : Nat) : Int) - (F : Int)
        omega
  · have le : 2 ^ w ≤ 2 ^ a := Nat.pow_le_pow_right (by decide) q
    have ew : winV "mask" n ((2 ^ w : Nat) : Int) = ((2 ^ w : Nat) : Int) := by
      rw [winV_mask, lb, if_neg (by omega)]
    have fz : F = 0 := by
      apply Nat.eq_of_testBit_eq
      intro i
      rw [Nat.zero_testBit]
      rcases Nat.lt_or_ge i w with z | z
      · exact fl i (by omega)
      · exact nb_hi r.ff z
    constructor <;> rw [ew, gapsM_mask]
    · refine ⟨_, (mask_mem (c := 0) w2 ef _).mpr (.inr rfl), ?_⟩
      show ((2 ^ w : Nat) : Int) - (F : Int) = _
      rw [fz]; omega
    · intro x hx
      rcases (mask_mem (c := 0) w2 ef x).mp hx with ⟨j, jw, hf, rfl⟩ | rfl
      · rw [fz, Nat.zero_testBit] at hf; cases hf
      · show ((2 ^ w : Nat) : Int) ≤ ((2 ^ w : Nat) : Int) - (F : Int)
        rw [fz]; omega

local macro_rules | `(tactic| walk_at "bT") => `(tactic| first | exact decide_eq_true (congrArg V.str (by with_reducible assumption)) | fail "bT")
local macro_rules | `(tactic| walk_at "bF") => `(tactic| first | exact strNe (by with_reducible assumption) | exact neSelf _ | fail "bF")
def Out (k : Str) (n M : Int) : Prop := k = "off" ∧ 2 * n < M
instance (k : Str) (n M : Int) : Decidable (Out k n M) := inferInstanceAs (Decidable (_ ∧ _))
theorem firsts_ok {t : Pt} {n : Int} (h : Wf t) (n1 : 1 ≤ n) (m1 : 1 ≤ modV t.wrap n) (o : ¬ Out t.slot n (modV t.wrap n)) : Firsts t.slot n (modV t.wrap n) ∧ Least t.slot n (modV t.wrap n) := by
  rcases slot3 h.s with z | z | z
  · rw [z]; exact ⟨firsts_rest n1 m1, least_rest n1 m1⟩
  · obtain ⟨w, w1, em⟩ := mask_pow (n := n) h z
    rw [em, z]
    exact ⟨firsts_mask (by omega) n1, least_mask (by omega) n1⟩
  · have : modV t.wrap n ≤ 2 * n := by
      rcases Int.lt_or_le (2 * n) (modV t.wrap n) with q | q
      · exact absurd ⟨z, q⟩ o
      · exact q
    rw [z]; exact ⟨firsts_off n1 m1 this, least_off n1 m1 this⟩
theorem slot_in {k : Str} {n M c : Int} (h : k ∈ wSlot) (o : ¬ Out k n M) (cM : c < M) : slotV k n c ≠ .non := by
  rcases slot3 h with z | z | z
  · rw [z, slotV_rest]; intro q; cases q
  · rw [z, slotV_mask]; intro q; cases q
  · rw [z]
    have : M ≤ 2 * n := by
      rcases Int.lt_or_le (2 * n) M with q | q
      · exact absurd ⟨z, q⟩ o
      · exact q
    rcases Int.lt_or_le c n with q | q
    · rw [off_lo q]; intro z; cases z
    · rw [off_hi (by omega) (by omega)]; intro z; cases z

def fsts (g : Int) (gs : List (Int × Int)) : List Int := (gs.filter fun x => decide (x.2 = g)).map (·.1)
theorem fsts_mem {gs : List (Int × Int)} {g c : Int} : c ∈ fsts g gs ↔ ∃ x ∈ gs, x.2 = g ∧ x.1 = c := by
  unfold fsts
  constructor
  · intro h
    obtain ⟨x, hx, e⟩ := List.mem_map.mp h
    obtain ⟨h1, h2⟩ := List.mem_filter.mp hx
    exact ⟨x, h1, of_decide_eq_true h2, e⟩
  · rintro ⟨x, hx, e, e2⟩
    exact List.mem_map.mpr ⟨x, List.mem_filter.mpr ⟨hx, decide_eq_true e⟩, e2⟩
theorem fsts_in {gs : List (Int × Int)} {i : Nat} {s g g0 : Int} (h : gs[i]? = some (s, g)) (e : g = g0) : fsts g0 (gs.take (i + 1)) = fsts g0 (gs.take i) ++ [s] := by
  unfold fsts
  rw [List.take_add_one, h, List.filter_append, List.map_append]
  simp [e]
theorem fsts_out {gs : List (Int × Int)} {i : Nat} {s g g0 : Int} (h : gs[i]? = some (s, g)) (e : ¬ g = g0) : fsts g0 (gs.take (i + 1)) = fsts g0 (gs.take i) := by
  unfold fsts
  rw [List.take_add_one, h, List.filter_append, List.map_append]
  simp [e]
theorem fsts_len (g : Int) (gs : List (Int × Int)) : (fsts g gs).length ≤ gs.length := by
  unfold fsts
  rw [List.length_map]
  exact List.length_filter_le _ _
/-! the law's rows of slots -/
def slI (k : Str) (n c : Int) : Int := match slotV k n c with
  | .int s => s
  | _ => 0
/-- no counter below M is outside -/
def Ints (k : Str) (n M : Int) : Prop := ∀ c, 0 ≤ c → c < M → slotV k n c = .int (slI k n c)
theorem ints_of {k : Str} {n M : Int} (h : ∀ c, 0 ≤ c → c < M → slotV k n c ≠ .non) : Ints k n M := fun c c0 cM => by
  obtain ⟨s, e⟩ := slotV_int (h c c0 cM)
  unfold slI
  rw [e]
def SL (k : Str) (n : Int) (i : Nat) : List V := (List.range i).map fun c : Nat => slotV k n (c : Int)
theorem SL_len (k : Str) (n : Int) (i : Nat) : (SL k n i).length = i := by unfold SL; simp
theorem SL_succ (k : Str) (n : Int) (i : Nat) : SL k n (i + 1) = SL k n i ++ [slotV k n (0 + (i : Int))] := by unfold SL; rw [List.range_succ, List.map_append, Int.zero_add]; rfl
theorem atSL {k : Str} {n M i : Int} (h0 : 0 ≤ i) (h1 : i < M) : atI (SL k n M.toNat) i = some (slotV k n i) := by
  obtain ⟨j, rfl⟩ : ∃ j : Nat, i = (j : Int) := ⟨i.toNat, by omega⟩
  refine atI_nat ?_
  unfold SL
  rw [List.getElem?_map, List.getElem?_range (by omega)]
  rfl
theorem slotV_flat (k : Str) (n c : Int) : flatV (slotV k n c) = true := by
  unfold slotV
  repeat' split
  all_goals rfl
theorem SL_flat (k : Str) (n : Int) (i : Nat) : (SL k n i).all flatV = true := by
  rw [List.all_eq_true]
  intro x hx
  obtain ⟨c, _, rfl⟩ := List.mem_map.mp hx
  exact slotV_flat _ _ _
theorem none_no {k : Str} {n M : Int} (h : Ints k n M) : inV .non (SL k n M.toNat) = false := by
  unfold inV
  rw [List.any_eq_false]
  intro x hx
  obtain ⟨c, hc, rfl⟩ := List.mem_map.mp hx
  have := List.mem_range.mp hc
  rw [h c (by omega) (by omega)]
  simp [eqV]
theorem none_yes {k : Str} {n M c : Int} (c0 : 0 ≤ c) (cM : c < M) (h : slotV k n c = .non) : inV .non (SL k n M.toNat) = true := by
  unfold inV
  rw [List.any_eq_true]
  refine ⟨slotV k n c, List.mem_map.mpr ⟨c.toNat, List.mem_range.mpr (by omega), by rw [Int.toNat_of_nonneg c0]⟩, ?_⟩
  rw [h]
  simp [eqV]
theorem out_none {k : Str} {n M : Int} (n1 : 1 ≤ n) (o : Out k n M) : slotV k n (2 * n) = .non := by
  rw [o.1, slotV_off, if_neg (by omega), if_neg (by omega)]
/-- a row of m counters' slots from c on -/
def rowI (k : Str) (n M : Int) (c : Int) (i : Nat) : List Int := (List.range i).map fun j : Nat => slI k n ((c + (j : Int)) % M)
theorem row_len (k : Str) (n M c : Int) (i : Nat) : (rowI k n M c i).length = i := by unfold rowI; simp
theorem row_succ (k : Str) (n M c : Int) (i : Nat) : rowI k n M c (i + 1) = rowI k n M c i ++ [slI k n ((c + (0 + (i : Int))) % M)] := by unfold rowI; rw [List.range_succ, List.map_append, Int.zero_add]; rfl
def Alls (k : Str) (n M m : Int) : Prop := ∀ c, 0 ≤ c → c < M → (rowI k n M c m.toNat).Nodup
theorem alls_ok {k : Str} {n M W : Int} (m1 : 1 ≤ M) (hi : Ints k n M) (h : ∀ c, 0 ≤ c → c < M → ∃ g, IsGap k n M c g ∧ W ≤ g) : Alls k n M W := fun c c0 cM => by
  unfold rowI
  show List.Pairwise (· ≠ ·) _
  rw [List.pairwise_map]
  refine List.pairwise_lt_range.imp_of_mem fun {i j} hi1 hj1 hij e => ?_
  have hj := List.mem_range.mp hj1
  have a0 := Int.emod_nonneg (c + (i : Int)) (show M ≠ 0 by omega)
  have a1 := Int.emod_lt_of_pos (c + (i : Int)) (show 0 < M by omega)
  have b0 := Int.emod_nonneg (c + (j : Int)) (show M ≠ 0 by omega)
  have b1 := Int.emod_lt_of_pos (c + (j : Int)) (show 0 < M by omega)
  obtain ⟨g, ig, wg⟩ := h _ a0 a1
  refine ig.2.2.2 ((j : Int) - i) (by omega) (by omega) ?_
  rw [Int.emod_add_emod, show c + (i : Int) + ((j : Int) - i) = c + j by omega, hi _ a0 a1, hi _ b0 b1, e]
theorem alls_no {k : Str} {n M c g : Int} (c0 : 0 ≤ c) (cM : c < M) (ig : IsGap k n M c g) : ¬ Alls k n M (g + 1) := fun h => by
  have z := h c c0 cM
  have g1 := ig.1
  unfold rowI at z
  have z2 : List.Pairwise (· ≠ ·) ((List.range (g + 1).toNat).map fun j : Nat => slI k n ((c + (j : Int)) % M)) := z
  rw [List.pairwise_map] at z2
  have z3 := List.pairwise_iff_getElem.mp z2 0 g.toNat (by rw [List.length_range]; omega) (by rw [List.length_range]; omega) (by omega)
  rw [List.getElem_range, List.getElem_range] at z3
  refine z3 ?_
  unfold slI
  rw [show c + ((0 : Nat) : Int) = c by omega, Int.emod_eq_of_lt c0 cM, show c + ((g.toNat : Nat) : Int) = c + g by omega, ig.2.2.1]
/-- the gaps of all counters -/
def GL (G : Int → Int) (i : Nat) : List Int := (List.range i).map fun c : Nat => G (c : Int)
theorem GL_len (G : Int → Int) (i : Nat) : (GL G i).length = i := by unfold GL; simp
theorem GL_succ (G : Int → Int) (i : Nat) : GL G (i + 1) = GL G i ++ [G (0 + (i : Int))] := by unfold GL; rw [List.range_succ, List.map_append, Int.zero_add]; rfl
theorem GL_mem {G : Int → Int} {M x : Int} : x ∈ GL G M.toNat ↔ ∃ c, 0 ≤ c ∧ c < M ∧ G c = x := by
  unfold GL
  constructor
  · intro h
    obtain ⟨c, hc, e⟩ := List.mem_map.mp h
    have := List.mem_range.mp hc
    exact ⟨c, by omega, by omega, e⟩
  · rintro ⟨c, c0, cM, e⟩
    exact List.mem_map.mpr ⟨c.toNat, List.mem_range.mpr (by omega), by rw [Int.toNat_of_nonneg c0]; exact e⟩
theorem GL_at {G : Int → Int} {M c : Int} (c0 : 0 ≤ c) (cM : c < M) : ((GL G M.toNat).map V.int)[c.toNat]? = some (.int (G c)) := by
  unfold GL
  rw [List.getElem?_map, List.getElem?_map, List.getElem?_range (by omega)]
  show some (V.int (G ((c.toNat : Nat) : Int))) = _
  rw [Int.toNat_of_nonneg c0]
theorem GL_ahead {G : Int → Int} {M c W : Int} (cM : c < M) (h : ∀ d, 0 ≤ d → d < c → G d ≠ W) (m : Nat) (z : V) (hm : m < c.toNat) (e : ((GL G M.toNat).map V.int)[m]? = some z) : eqV z (.int W) = false := by
  unfold GL at e
  rw [List.getElem?_map, List.getElem?_map, List.getElem?_range (by omega)] at e
  cases e
  have := h m (by omega) (by omega)
  simp [eqV, this]
theorem ints_flat (ns : List Int) : (ns.map V.int).all flatV = true := by
  rw [List.all_eq_true]
  intro x hx
  obtain ⟨i, _, rfl⟩ := List.mem_map.mp hx
  rfl
theorem gap_fun {k : Str} {n M : Int} (h : ∀ c, 0 ≤ c → c < M → ∃ g, IsGap k n M c g) : ∃ G : Int → Int, ∀ c, 0 ≤ c → c < M → IsGap k n M c (G c) := by
  refine ⟨fun c => if q : 0 ≤ c ∧ c < M then Classical.choose (h c q.1 q.2) else 0, fun c c0 cM => ?_⟩
  dsimp only
  rw [dif_pos ⟨c0, cM⟩]
  exact Classical.choose_spec (h c c0 cM)
theorem sorted_least {ns ns' : List Int} {W : Int} (hp : ns'.Perm ns) (ho : ns'.Pairwise (· ≤ ·)) (hm : W ∈ ns) (hl : ∀ x ∈ ns, W ≤ x) : ∃ r, ns' = W :: r := by
  cases ns' with
  | nil => exact absurd (hp.mem_iff.mpr hm) (by simp)
  | cons m r =>
    refine ⟨r, ?_⟩
    have h1 := hl m (hp.mem_iff.mp (List.mem_cons_self ..))
    rcases List.mem_cons.mp (hp.mem_iff.mpr hm) with e | h2
    · rw [e]
    · have h3 := (List.pairwise_cons.mp ho).1 W h2
      rw [Int.le_antisymm h3 h1]

local macro_rules | `(tactic| walk_at "bT") => `(tactic| first | with_reducible assumption | fail "bT")
theorem modV60 {t : Wr} {n : Int} (h : WfW t) (hw : ∀ u, t = .width u → u ≤ 5) (n1 : 1 ≤ n) (n2 : n ≤ 10) : modV t n ≤ 60 := by
  cases t with
  | width w =>
    have h : 1 ≤ w ∧ w ≤ 100 := h
    have := hw w rfl
    show 1 * 2 ^ w.toNat ≤ 60
    have e : (2 : Int) ^ w.toNat ≤ 2 ^ 5 := by
      have : (2 : Nat) ^ w.toNat ≤ 2 ^ 5 := Nat.pow_le_pow_right (by decide) (by omega)
      exact_mod_cast this
    omega
  | form s b =>
    have h : 0 ≤ s ∧ s ≤ 4 ∧ -20 ≤ b ∧ b ≤ 20 := h
    show s * n + b ≤ 60
    have : s * n ≤ 4 * 10 := Int.mul_le_mul h.2.1 n2 (by omega) (by omega)
    omega

section
variable {P : Program} {w : World} {K : PySem.W.Frag} {mg : Str → Option Value} {base : Heap} {A : Adr}
/-! has_outside -/
theorem sc_has_outside : FnScope ["kind", "n", "modulus"] ["kind", "n", "modulus"] (defScope s_has_outside) := ⟨rfl, rfl, rfl, by decide +kernel, rfl, by decide +kernel, by decide +kernel⟩
abbrev sp_has_outside (K : PySem.W.Frag) (A : Adr) : Sp := fun vs H Q _ => ∃ (k : Str) (n M : Int), vs = [.str k, .int n, .int M] ∧ 1 ≤ n ∧ n ≤ 100000000000000000000000000000000 ∧ Q (.bl (decide (Out k n M))) H
theorem ok_has_outside (T : Txt w K mg A) : FnOk P w K mg base CX0 1 A.f_has_outside A.d_has_outside ["kind", "n", "modulus"] (sp_has_outside K A) := by
  refine T.F_has_outside.ok sc_has_outside (fun vs H Q E h => ?_) (fun cdv Ar outer s H vs Q E hr h => ?_)
  · obtain ⟨kd, n, M, rfl, n1, n2, k⟩ := h
    rfl
  · obtain ⟨kd, n, M, rfl, n1, n2, k⟩ := h
    have hu := hu_of hr
    have t_q_PART_NAMES := T.q_PART_NAMES
    have t_q_PART_WORDS_slot := T.q_PART_WORDS_slot
    have t_d_PART_WORDS_slot := T.d_PART_WORDS_slot
    have t_q_PART_WORDS_empty := T.q_PART_WORDS_empty
    have t_d_PART_WORDS_empty := T.d_PART_WORDS_empty
    have t_q_PART_WORDS_when := T.q_PART_WORDS_when
    have t_d_PART_WORDS_when := T.d_PART_WORDS_when
    have t_q_MEASURES := T.q_MEASURES
    have t_q_SIGNS := T.q_SIGNS
    have t_q_PLAIN_FULLS := T.q_PLAIN_FULLS
    have t_i_Form := T.i_Form
    have t_kt_Form_Form := T.kt_Form_Form
    have t_kt_int_Form := T.kt_int_Form
    have t_nf_Form_Form := T.nf_Form_Form
    have t_nf_int_Form := T.nf_int_Form
    have t_k_Form := T.k_Form
    have t_k_Scheme := T.k_Scheme
    rcases Decidable.em (kd = "off") with rfl | h
    · skip
      refine ⟨_, (pss_one (ps_ret (pe_and (pe_cmpR op_eq (pv 0) pe_str (nomark _)) (pe_one (pe_cmpR op_gt (pv 2) (pe_op op_mulW pe_int (pv 1)) (nomark _)))))), ?_⟩
      try dsimp only [L2.cxOf, L2.Cx.nox, L2.Cx.wish]
      with_reducible refine Rd.ret (Rd.andV (Rd.op (Rd.var (by walk_at "vr") (Rd.c (Rd.eqS (by walk_at "vr") (Rd.bl (Rd.iteT (by first | with_unfolding_all rfl | walk_at "bT") (Rd.op (Rd.var (by walk_at "vr") (Rd.op (Rd.c ?_)))))))))))
      with_reducible refine Rd.var (by walk_at "vr") (Rd.iC (by walk_at "scm") (Rd.i0 ?_))
      rw [show decide (Out "off" n M) = decide (2 * n < M) from decide_eq_decide.mpr ⟨fun q => q.2, fun q => ⟨rfl, q⟩⟩] at k
      exact k
    · skip
      refine ⟨_, (pss_one (ps_ret (pe_and (pe_cmpR op_eq (pv 0) pe_str (nomark _)) (pe_one Rd.peN)))), ?_⟩
      try dsimp only [L2.cxOf, L2.Cx.nox, L2.Cx.wish]
      with_reducible refine Rd.ret (Rd.andV (Rd.op (Rd.var (by walk_at "vr") (Rd.c (Rd.eqS (by walk_at "vr") (Rd.bl (Rd.iteF (by walk_at "bF") ?_)))))))
      rw [decide_eq_false (fun q => h q.1)] at k
      exact k
/-! mask_of -/
theorem sc_mask_of : FnScope ["n", "modulus"] ["n", "modulus"] (defScope s_mask_of) := ⟨rfl, rfl, rfl, by decide +kernel, rfl, by decide +kernel, by decide +kernel⟩
def sp_mask_of (P : Program) (w : World) (mg : Str → Option Value) (base : Heap) (K : PySem.W.Frag) (A : Adr) : Sp := fun vs H Q E => vs.length = 2 ∧ ∀ (cdv : Value) (Ar : Around) (outer : List Env) (s : Shared), Room 0 (Ar.deeper (PyProof.Rows.envOfC "mask_of" (defScope s_mask_of) s.heap.objs.size A.f_mask_of cdv)) → ∃ t, PSs (cxOf CX0 P w K mg base ["n", "modulus"] "mask_of" (defScope s_mask_of) A.f_mask_of cdv Ar outer s H E).nox (defBody s_mask_of) t ∧ t { nx := fun _ H' => Q .non H', rt := Q } (start ["n", "modulus"] vs) H
theorem in_mask_of {vs : List V} {H : Hp} {Q : VK} {E : XK} (h : ∀ (cdv : Value) (Ar : Around) (outer : List Env) (s : Shared), Room 0 (Ar.deeper (PyProof.Rows.envOfC "mask_of" (defScope s_mask_of) s.heap.objs.size A.f_mask_of cdv)) → ∃ t, PSs (cxOf CX0 P w K mg base ["n", "modulus"] "mask_of" (defScope s_mask_of) A.f_mask_of cdv Ar outer s H E).nox (defBody s_mask_of) t ∧ t { nx := fun _ H' => Q .non H', rt := Q } (start ["n", "modulus"] vs) H) (e : vs.length = 2) : sp_mask_of P w mg base K A vs H Q E := ⟨e, h⟩
theorem ok_mask_of (T : Txt w K mg A) : FnOk P w K mg base CX0 1 A.f_mask_of A.d_mask_of ["n", "modulus"] (sp_mask_of P w mg base K A) := T.F_mask_of.ok sc_mask_of (fun _ _ _ _ h => h.1) (fun cdv Ar outer s H vs Q E hr h => h.2 cdv Ar outer s hr)
/-! steps_to_bits -/
theorem sc_steps_to_bits : FnScope ["modulus", "mask", "bits", "c", "unlike", "highest", "low", "found"] ["modulus", "mask", "bits", "c"] (defScope s_steps_to_bits) := ⟨rfl, rfl, rfl, by decide +kernel, rfl, by decide +kernel, by decide +kernel⟩
abbrev sp_steps_to_bits (K : PySem.W.Frag) (A : Adr) : Sp := fun vs H Q _ => ∃ M mask bits c : Int, vs = [.int M, .int mask, .int bits, .int c] ∧ 1 ≤ M ∧ 0 ≤ mask ∧ mask < 2 ^ 101 ∧ 0 ≤ bits ∧ 0 ≤ c ∧ Q (.int (stb M mask bits c)) H
theorem ok_steps_to_bits (T : Txt w K mg A) : FnOk P w K mg base CX0 1 A.f_steps_to_bits A.d_steps_to_bits ["modulus", "mask", "bits", "c"] (sp_steps_to_bits K A) := by
  refine T.F_steps_to_bits.ok sc_steps_to_bits (fun vs H Q E h => ?_) (fun cdv Ar outer s H vs Q E hr h => ?_)
  · obtain ⟨M, mask, bits, c, rfl, m1, k0, k1, b0, c0, k⟩ := h
    rfl
  · obtain ⟨M, mask, bits, c, rfl, m1, k0, k1, b0, c0, k⟩ := h
    have hu := hu_of hr
    have t_q_PART_NAMES := T.q_PART_NAMES
    have t_q_PART_WORDS_slot := T.q_PART_WORDS_slot
    have t_d_PART_WORDS_slot := T.d_PART_WORDS_slot
    have t_q_PART_WORDS_empty := T.q_PART_WORDS_empty
    have t_d_PART_WORDS_empty := T.d_PART_WORDS_empty
    have t_q_PART_WORDS_when := T.q_PART_WORDS_when
    have t_d_PART_WORDS_when := T.d_PART_WORDS_when
    have t_q_MEASURES := T.q_MEASURES
    have t_q_SIGNS := T.q_SIGNS
    have t_q_PLAIN_FULLS := T.q_PLAIN_FULLS
    have t_i_Form := T.i_Form
    have t_kt_Form_Form := T.kt_Form_Form
    have t_kt_int_Form := T.kt_int_Form
    have t_nf_Form_Form := T.nf_Form_Form
    have t_nf_int_Form := T.nf_int_Form
    have t_k_Form := T.k_Form
    have t_k_Scheme := T.k_Scheme
    obtain ⟨u0, u1⟩ := and_nn (xor_nn c0 b0) k0
    rcases (by omega : Builtin.bitAnd (Builtin.bitXor c bits) mask = 0 ∨ ¬ Builtin.bitAnd (Builtin.bitXor c bits) mask = 0) with h | h
    rotate_left 1
    have ib : 1 ≤ Builtin.Int.intBits (Builtin.bitAnd (Builtin.bitXor c bits) mask) ∧ Builtin.Int.intBits (Builtin.bitAnd (Builtin.bitXor c bits) mask) ≤ 101 := intBits_ok (by omega) (by omega)
    generalize hB : Builtin.Int.intBits (Builtin.bitAnd (Builtin.bitXor c bits) mask) = B at ib
    have hp := pow_le (i := (((B : Nat) : Int) - 1).toNat) (by omega)
    have hp0 := pow_pos2 (((B : Nat) : Int) - 1).toNat
    rcases Decidable.em (Builtin.bitAnd c (1 * 2 ^ (((B : Nat) : Int) - 1).toNat) = 0) with g | g
    rotate_left 2
    · skip
      refine ⟨_, (pss_cons (ps_set (i := 4) sc_steps_to_bits.nd rfl (Or.inl rfl) (pe_op op_and (pe_op op_xor (pv 3) (pv 2)) (pv 1)))
      (pss_cons (ps_if (pt_cmpR op_eq (pv 4) pe_int (nomark _)) (pss_one (ps_ret pe_int)) pss_nil)
      (pss_cons ps_never (pss_cons ps_never (pss_cons ps_never (pss_one ps_never)))))), ?_⟩
      try dsimp only [L2.cxOf, L2.Cx.nox, L2.Cx.wish]
      with_reducible refine Rd.seq (Rd.asg (Rd.op (Rd.op (Rd.var (by walk_at "vr") (Rd.var (by walk_at "vr") (Rd.i0 (Rd.var (by walk_at "vr") (Rd.i0 (Rd.name (Rd.seq (Rd.ifS ?_)))))))))))
      with_reducible refine Rd.test (Rd.op (Rd.var (by walk_at "vr") (Rd.c (Rd.eqS (by walk_at "vr") (Rd.bl (Rd.iteT (by walk_at "bT") (Rd.ret (Rd.c ?_))))))))
      unfold stb at k
      rw [if_pos h] at k
      exact k
    · skip
      refine ⟨_, (pss_cons (ps_set (i := 4) sc_steps_to_bits.nd rfl (Or.inl rfl) (pe_op op_and (pe_op op_xor (pv 3) (pv 2)) (pv 1)))
      (pss_cons (ps_if (pt_cmpR op_eq (pv 4) pe_int (nomark _)) (pss_one ps_never) pss_nil)
      (pss_cons (ps_set (i := 5) sc_steps_to_bits.nd rfl (Or.inl rfl) (pe_op op_shl pe_int (pe_op op_sub (pe_bits (pv 4)) pe_int)))
      (pss_cons (ps_set (i := 6) sc_steps_to_bits.nd rfl (Or.inl rfl) (pe_op op_sub (pe_op op_mulW pe_int (pv 5)) pe_int))
      (pss_cons (ps_if (pt_truth (pe_op op_and (pv 3) (pv 5)) (by intro _; rfl)) (pss_one ps_never) (pss_one (ps_set (i := 7) sc_steps_to_bits.nd rfl (Or.inl rfl) (pe_op op_or (pe_op op_sub (pe_op op_or (pv 3) (pv 6)) (pv 6)) (pe_op op_and (pv 2) (pv 6))))))
      (pss_one (ps_ret (pe_op op_mod (pe_op op_sub (pv 7) (pv 3)) (pv 0))))))))), ?_⟩
      try dsimp only [L2.cxOf, L2.Cx.nox, L2.Cx.wish]
      with_reducible refine Rd.seq (Rd.asg (Rd.op (Rd.op (Rd.var (by walk_at "vr") (Rd.var (by walk_at "vr") (Rd.i0 (Rd.var (by walk_at "vr") (Rd.i0 (Rd.name (Rd.seq (Rd.ifS ?_)))))))))))
      with_reducible refine Rd.test (Rd.op (Rd.var (by walk_at "vr") (Rd.c (Rd.eqS (by walk_at "vr") (Rd.bl (Rd.iteF (by walk_at "bF") (Rd.next (Rd.seq (Rd.asg (Rd.op (Rd.c ?_)))))))))))
      with_reducible refine Rd.op (Rd.bits (Rd.var (by walk_at "vr") (⟨_, rfl, (Rd.c (Rd.i0 (Rd.iC (by walk_at "scp") (Rd.name ?_))))⟩)))
      rw [hB]
      with_reducible refine Rd.seq (Rd.asg (Rd.op (Rd.op (Rd.c (Rd.var (by walk_at "vr") (Rd.iC (by walk_at "scm") (Rd.c (Rd.i0 (Rd.name (Rd.seq (Rd.ifS ?_)))))))))))
      with_reducible refine Rd.tru (Rd.op (Rd.var (by walk_at "vr") (Rd.var (by walk_at "vr") (Rd.i0 ?_))))
      refine ⟨_, Rd.truI, ?_⟩
      with_reducible refine Rd.iteF (by walk_at "bF") (Rd.asg (Rd.op (Rd.op (Rd.op (Rd.var (by walk_at "vr") (Rd.var (by walk_at "vr") (Rd.i0 (Rd.var (by walk_at "vr") (Rd.i0 (Rd.op (Rd.var (by walk_at "vr") ?_)))))))))))
      with_reducible refine Rd.var (by walk_at "vr") (Rd.i0 (Rd.i0 (Rd.name (Rd.ret (Rd.op (Rd.op (Rd.var (by walk_at "vr") (Rd.var (by walk_at "vr") (Rd.i0 (Rd.var (by walk_at "vr") (Rd.iC (by walk_at "sc") ?_)))))))))))
      unfold stb at k
      rw [if_neg h, hB, if_neg (fun z => z g)] at k
      exact k
    · skip
      refine ⟨_, (pss_cons (ps_set (i := 4) sc_steps_to_bits.nd rfl (Or.inl rfl) (pe_op op_and (pe_op op_xor (pv 3) (pv 2)) (pv 1)))
      (pss_cons (ps_if (pt_cmpR op_eq (pv 4) pe_int (nomark _)) (pss_one ps_never) pss_nil)
      (pss_cons (ps_set (i := 5) sc_steps_to_bits.nd rfl (Or.inl rfl) (pe_op op_shl pe_int (pe_op op_sub (pe_bits (pv 4)) pe_int)))
      (pss_cons (ps_set (i := 6) sc_steps_to_bits.nd rfl (Or.inl rfl) (pe_op op_sub (pe_op op_mulW pe_int (pv 5)) pe_int))
      (pss_cons (ps_if (pt_truth (pe_op op_and (pv 3) (pv 5)) (by intro _; rfl)) (pss_one (ps_set (i := 7) sc_steps_to_bits.nd rfl (Or.inl rfl) (pe_op op_or (pe_op op_and (pe_op op_add (pe_op op_or (pe_op op_or (pv 3) (pv 1)) (pv 6)) pe_int) (pe_op op_sub (pe_op op_sub (pv 0) pe_int) (pv 1))) (pv 2)))) (pss_one ps_never))
      (pss_one (ps_ret (pe_op op_mod (pe_op op_sub (pv 7) (pv 3)) (pv 0))))))))), ?_⟩
      try dsimp only [L2.cxOf, L2.Cx.nox, L2.Cx.wish]
      with_reducible refine Rd.seq (Rd.asg (Rd.op (Rd.op (Rd.var (by walk_at "vr") (Rd.var (by walk_at "vr") (Rd.i0 (Rd.var (by walk_at "vr") (Rd.i0 (Rd.name (Rd.seq (Rd.ifS ?_)))))))))))
      with_reducible refine Rd.test (Rd.op (Rd.var (by walk_at "vr") (Rd.c (Rd.eqS (by walk_at "vr") (Rd.bl (Rd.iteF (by walk_at "bF") (Rd.next (Rd.seq (Rd.asg (Rd.op (Rd.c ?_)))))))))))
      with_reducible refine Rd.op (Rd.bits (Rd.var (by walk_at "vr") (⟨_, rfl, (Rd.c (Rd.i0 (Rd.iC (by walk_at "scp") (Rd.name ?_))))⟩)))
      rw [hB]
      with_reducible refine Rd.seq (Rd.asg (Rd.op (Rd.op (Rd.c (Rd.var (by walk_at "vr") (Rd.iC (by walk_at "scm") (Rd.c (Rd.i0 (Rd.name (Rd.seq (Rd.ifS ?_)))))))))))
      with_reducible refine Rd.tru (Rd.op (Rd.var (by walk_at "vr") (Rd.var (by walk_at "vr") (Rd.i0 ?_))))
      refine ⟨_, Rd.truI, ?_⟩
      with_reducible refine Rd.iteT (by walk_at "bT") (Rd.asg (Rd.op (Rd.op (Rd.op (Rd.op (Rd.op (Rd.var (by walk_at "vr") (Rd.var (by walk_at "vr") (Rd.i0 (Rd.var (by walk_at "vr") (Rd.i0 ?_)))))))))))
      with_reducible refine Rd.c (Rd.i0 (Rd.op (Rd.op (Rd.var (by walk_at "vr") (Rd.c (Rd.i0 (Rd.var (by walk_at "vr") (Rd.i0 (Rd.i0 (Rd.var (by walk_at "vr") (Rd.i0 ?_)))))))))))
      with_reducible refine Rd.name (Rd.ret (Rd.op (Rd.op (Rd.var (by walk_at "vr") (Rd.var (by walk_at "vr") (Rd.i0 (Rd.var (by walk_at "vr") (Rd.iC (by walk_at "sc") ?_))))))))
      unfold stb at k
      rw [if_neg h, hB, if_pos g] at k
      exact k
/-! mask_gaps -/
theorem sc_mask_gaps : FnScope ["n", "modulus", "c", "free", "gaps", "lower", "bit"] ["n", "modulus", "c"] (defScope s_mask_gaps) := ⟨rfl, rfl, rfl, by decide +kernel, rfl, by decide +kernel, by decide +kernel⟩
abbrev sp_mask_gaps (K : PySem.W.Frag) (A : Adr) : Sp := fun vs H Q _ => ∃ (n M c : Int) (w : Nat), vs = [.int n, .int M, .int c] ∧ 1 ≤ n ∧ n ≤ 100000000000000000000000000000000 ∧ 1 ≤ M ∧ M ≤ 100000000000000000000000000000000 ∧ 0 ≤ c ∧ c < M ∧ w ≤ 100 ∧ M = 2 ^ w ∧ ∀ (l : Addr) (ws : List V) (H' : Hp), Same H H' → H l = none → H' l = some (.lst ws) → Prs H' ws (maskGaps n M c) → Q (.ref l) H'
theorem ok_mask_gaps (T : Txt w K mg A) : FnOk P w K mg base CX0 2 A.f_mask_gaps A.d_mask_gaps ["n", "modulus", "c"] (sp_mask_gaps K A) := by
  refine T.F_mask_gaps.ok sc_mask_gaps (fun vs H Q E h => ?_) (fun cdv Ar outer s H vs Q E hr h => ?_)
  · obtain ⟨n, M, c, w, rfl, n1, n2, m1, m2, c1, c2, hw1, hw, k⟩ := h
    rfl
  · obtain ⟨n, M, c, w, rfl, n1, n2, m1, m2, c1, c2, hw1, hw, k⟩ := h
    have hu := hu_of hr
    have t_q_PART_NAMES := T.q_PART_NAMES
    have t_q_PART_WORDS_slot := T.q_PART_WORDS_slot
    have t_d_PART_WORDS_slot := T.d_PART_WORDS_slot
    have t_q_PART_WORDS_empty := T.q_PART_WORDS_empty
    have t_d_PART_WORDS_empty := T.d_PART_WORDS_empty
    have t_q_PART_WORDS_when := T.q_PART_WORDS_when
    have t_d_PART_WORDS_when := T.d_PART_WORDS_when
    have t_q_MEASURES := T.q_MEASURES
    have t_q_SIGNS := T.q_SIGNS
    have t_q_PLAIN_FULLS := T.q_PLAIN_FULLS
    have t_i_Form := T.i_Form
    have t_kt_Form_Form := T.kt_Form_Form
    have t_kt_int_Form := T.kt_int_Form
    have t_nf_Form_Form := T.nf_Form_Form
    have t_nf_int_Form := T.nf_int_Form
    have t_k_Form := T.k_Form
    have t_k_Scheme := T.k_Scheme
    have pM := pow_le (i := w) hw1
    obtain ⟨f0, f1⟩ := free_ok n1 m1 (by omega)
    refine ⟨_, (pss_cons (ps_set (i := 3) sc_mask_gaps.nd rfl (Or.inl rfl) (pe_op op_sub (pe_op op_sub (pv 1) pe_int) (pe_call (ok_mask_of T) (hr.mono (by decide)) (by rfl) T.m_mask_of T.F_mask_of.kp T.b_mask_of .nil pass0 (pa_cons (pv 0) (pa_cons (pv 1) pa_nil)))))
      (pss_cons (ps_set (i := 4) sc_mask_gaps.nd rfl (Or.inl rfl) (pe_lst pa_nil))
      (pss_cons (ps_set (i := 5) sc_mask_gaps.nd rfl (Or.inl rfl) pe_int)
      (pss_cons (ps_set (i := 6) sc_mask_gaps.nd rfl (Or.inl rfl) pe_int)
      (pss_cons (ps_while PassesOwn.never (pt_cmpR op_lt (pv 6) (pv 1) (nomark _)) (pss_cons (ps_if (pt_truth (pe_op op_and (pv 3) (pv 6)) (by intro _; rfl)) (pss_cons (ps_expr (pe_bm PySem.F.plainAttrs_list PySem.F.slot_list_append PySem.F.type_list_append mt_append (pv 4) (pa_cons (pe_tup (pa_cons (pe_call (ok_steps_to_bits T) (hr.mono (by decide)) (by rfl) T.m_steps_to_bits T.F_steps_to_bits.kp T.b_steps_to_bits .nil pass0 (pa_cons (pv 1) (pa_cons (pe_op op_or (pv 5) (pv 6)) (pa_cons (pv 5) (pa_cons (pv 2) pa_nil))))) (pa_cons (pe_op op_sub (pv 6) (pv 5)) pa_nil))) pa_nil)))
      (pss_one (ps_set (i := 5) sc_mask_gaps.nd rfl (Or.inl rfl) (pe_op op_or (pv 5) (pv 6))))) pss_nil)
      (pss_one (ps_set (i := 6) sc_mask_gaps.nd rfl (Or.inl rfl) (pe_op op_mulW pe_int (pv 6))))))
      (pss_cons (ps_expr (pe_bm PySem.F.plainAttrs_list PySem.F.slot_list_append PySem.F.type_list_append mt_append (pv 4) (pa_cons (pe_tup (pa_cons (pe_call (ok_steps_to_bits T) (hr.mono (by decide)) (by rfl) T.m_steps_to_bits T.F_steps_to_bits.kp T.b_steps_to_bits .nil pass0 (pa_cons (pv 1) (pa_cons (pv 3) (pa_cons (pv 3) (pa_cons (pv 2) pa_nil))))) (pa_cons (pe_op op_sub (pv 1) (pv 3)) pa_nil))) pa_nil)))
      (pss_one (ps_ret (pv 4))))))))), ?_⟩
    try dsimp only [L2.cxOf, L2.Cx.nox, L2.Cx.wish]
    with_reducible refine Rd.seq (Rd.asg (Rd.op (Rd.op (Rd.var (by walk_at "vr") (Rd.c (Rd.i0 (Rd.call (Rd.cons (Rd.var (by walk_at "vr") (Rd.cons (Rd.var (by walk_at "vr") ?_)))))))))))
    with_reducible refine Rd.nil ?_
    refine in_mask_of (fun cdv Ar outer s hr => ?_) rfl
    have hu := hu_of hr
    refine ⟨_, (pss_one (ps_ret (pe_op op_and (pe_op op_sub (pv 0) pe_int) (pe_op op_sub (pv 1) pe_int)))), ?_⟩
    try dsimp only [L2.cxOf, L2.Cx.nox, L2.Cx.wish]
    with_reducible refine Rd.ret (Rd.op (Rd.op (Rd.var (by walk_at "vr") (Rd.c (Rd.i0 (Rd.op (Rd.var (by walk_at "vr") (Rd.c (Rd.i0 (Rd.i0 (Rd.i0 ?_)))))))))))
    with_reducible refine Rd.name ?_
    try dsimp only [Int.reduceToNat, List.set]
    rw [show M - 1 - Builtin.bitAnd (n - 1) (M - 1) = freeOf n M from rfl]
    with_reducible refine Rd.seq (Rd.asg (Rd.lst (Rd.nil (Rd.laid (by walk_at "ll") ?_))))
    intro p0 np0
    with_reducible refine Rd.name ?_
    try dsimp only [Int.reduceToNat, List.set]
    have fresh0 : H p0 = none := by walk_at "nn"
    with_reducible refine Rd.seq (Rd.asg (Rd.c (Rd.name ?_)))
    try dsimp only [Int.reduceToNat, List.set]
    with_reducible refine Rd.seq (Rd.asg (Rd.c (Rd.name ?_)))
    try dsimp only [Int.reduceToNat, List.set]
    with_reducible refine Rd.seq ?_
    refine while_by (fun (σ : L2.St) (H' : Hp) => ∃ (i : Nat) (lower : Int) (acc : List (Int × Int)) (ws : List V), σ = [some (.int n), some (.int M), some (.int c), some (.int (freeOf n M)), some (.ref p0), some (.int lower), some (.int (2 ^ i))] ∧ i ≤ w ∧ 0 ≤ lower ∧ lower < 2 ^ i ∧ Same H H' ∧ H' p0 = some (.lst ws) ∧ Prs H' ws acc ∧ mgLoop (freeOf n M) M c (101 - i) lower (2 ^ i) acc = mgLoop (freeOf n M) M c 101 0 1 [] ∧ acc.length ≤ i) (fun σ _ => match σ[6]? with | some (some (V.int b)) => (M - b).toNat | _ => 0) ⟨0, 0, [], [], rfl, Nat.zero_le _, Int.le_refl _, by decide, (by walk_at "frm"), (by walk_at "hp"), True.intro, rfl, Nat.le_refl _⟩ (fun σ H0 ⟨i, lower, acc, ws, es, i1, l0, l1, S0, hl, hp, hm, al⟩ => ?_) ?_
    · subst es
      have pi := pow_le (i := i) (by omega)
      have pp := pow_pos2 i
      have wl := hp.len
      with_reducible refine Rd.test (Rd.op (Rd.var (by walk_at "vr") (Rd.var (by walk_at "vr") (Rd.i0 (Rd.bl ?_)))))
      refine Rd.ite (fun h0 => ?_) (fun h0 => ?_)
      · try simp only [decide_eq_true_eq, Bool.not_eq_true', decide_eq_false_iff_not, Bool.not_eq_true, Bool.not_eq_eq_eq_not, Bool.not_true, Bool.not_false] at h0
        have iw : i < w := by
          rcases Nat.lt_or_ge i w with z | z
          · exact z
          · have := pow_mono z
            omega
        have ol := or_lt l0 (by omega : (0 : Int) ≤ 2 ^ i) (k := i + 1) (by rw [pow2s]; omega) (by rw [pow2s]; omega)
        have on := or_nn l0 (by omega : (0 : Int) ≤ 2 ^ i)
        have p1 := pow_mono (i := i + 1) (j := 100) (by omega)
        with_reducible refine Rd.seq (Rd.ifS (Rd.tru (Rd.op (Rd.var (by walk_at "vr") (Rd.var (by walk_at "vr") (Rd.i0 ?_))))))
        refine ⟨_, Rd.truI, ?_⟩
        refine Rd.ite (fun h1 => ?_) (fun h1 => ?_)
        · try simp only [decide_eq_true_eq, Bool.not_eq_true', decide_eq_false_iff_not, Bool.not_eq_true, Bool.not_eq_eq_eq_not, Bool.not_true, Bool.not_false] at h1
          with_reducible refine Rd.seq (Rd.drop ?_)
          try unfold tBM
          with_reducible refine Rd.var (by walk_at "vr") ?_
          refine ⟨Or.inl ⟨rfl, _, (by walk_at "hpl")⟩, ?_⟩
          with_reducible refine Rd.cons (Rd.tup (Rd.cons (Rd.call (Rd.cons (Rd.var (by walk_at "vr") (Rd.cons (Rd.op (Rd.var (by walk_at "vr") (Rd.var (by walk_at "vr") (Rd.i0 (Rd.cons ?_)))))))))))
          with_reducible refine Rd.var (by walk_at "vr") (Rd.cons (Rd.var (by walk_at "vr") (Rd.nil ?_)))
          refine ⟨_, _, _, _, rfl, (by walk_at "sc"), (by walk_at "sc"), (by walk_at "sc"), (by walk_at "sc"), (by walk_at "sc"), ?_⟩
          with_reducible refine Rd.cons (Rd.op (Rd.var (by walk_at "vr") (Rd.var (by walk_at "vr") (Rd.i0 (Rd.nil (Rd.laid (by walk_at "ll") ?_))))))
          intro p1 np1
          with_reducible refine Rd.nil ?_
          refine ⟨_, _, _, rfl, rfl, (by walk_at "hp"), (by walk_at "sz"), ?_⟩
          with_reducible refine Rd.asg (Rd.op (Rd.var (by walk_at "vr") (Rd.var (by walk_at "vr") (Rd.i0 (Rd.name ?_)))))
          try dsimp only [Int.reduceToNat, List.set]
          with_reducible refine Rd.asg (Rd.op (Rd.c (Rd.var (by walk_at "vr") (Rd.iC (by walk_at "scm") (Rd.name ?_)))))
          try dsimp only [Int.reduceToNat, List.set]
          first
            | exact ⟨⟨i + 1, lower, acc, ws, (by rw [pow2s]), iw, l0, (by rw [pow2s]; omega), (by walk_at "frm"), (by walk_at "hp"), hp, (by rw [pow2s, ← hm, mg_out (by omega) h0 (by simpa using h1)]), (by omega)⟩, (by show (M - 2 * 2 ^ i).toNat < (M - 2 ^ i).toNat; omega)⟩
            | exact ⟨⟨i + 1, _, acc ++ [(stb M (Builtin.bitOr lower (2 ^ i)) lower c, 2 ^ i - lower)], _, (by rw [pow2s]), iw, on, ol, (by walk_at "frm"), (by walk_at "hp"), Prs.app (by walk_at "hp") (hp.keep fun q xs h => by have n1 : q ≠ p0 := L2.ne_of h hl (by intro z; cases z); walk_at "hp"), (by rw [pow2s, ← hm, mg_in (by omega) h0 (by simpa using h1)]), (by rw [List.length_append]; simp only [List.length_cons, List.length_nil]; omega)⟩, (by show (M - 2 * 2 ^ i).toNat < (M - 2 ^ i).toNat; omega)⟩
        · try simp only [decide_eq_true_eq, Bool.not_eq_true', decide_eq_false_iff_not, Bool.not_eq_true, Bool.not_eq_eq_eq_not, Bool.not_true, Bool.not_false, Int.not_lt, Int.not_le, Decidable.not_not] at h1
          with_reducible refine Rd.next (Rd.asg (Rd.op (Rd.c (Rd.var (by walk_at "vr") (Rd.iC (by walk_at "scm") (Rd.name ?_))))))
          try dsimp only [Int.reduceToNat, List.set]
          first
            | exact ⟨⟨i + 1, lower, acc, ws, (by rw [pow2s]), iw, l0, (by rw [pow2s]; omega), (by walk_at "frm"), (by walk_at "hp"), hp, (by rw [pow2s, ← hm, mg_out (by omega) h0 (by simpa using h1)]), (by omega)⟩, (by show (M - 2 * 2 ^ i).toNat < (M - 2 ^ i).toNat; omega)⟩
            | exact ⟨⟨i + 1, _, acc ++ [(stb M (Builtin.bitOr lower (2 ^ i)) lower c, 2 ^ i - lower)], _, (by rw [pow2s]), iw, on, ol, (by walk_at "frm"), (by walk_at "hp"), Prs.app (by walk_at "hp") (hp.keep fun q xs h => by have n1 : q ≠ p0 := L2.ne_of h hl (by intro z; cases z); walk_at "hp"), (by rw [pow2s, ← hm, mg_in (by omega) h0 (by simpa using h1)]), (by rw [List.length_append]; simp only [List.length_cons, List.length_nil]; omega)⟩, (by show (M - 2 * 2 ^ i).toNat < (M - 2 ^ i).toNat; omega)⟩
      · try simp only [decide_eq_true_eq, Bool.not_eq_true', decide_eq_false_iff_not, Bool.not_eq_true, Bool.not_eq_eq_eq_not, Bool.not_true, Bool.not_false, Int.not_lt, Int.not_le, Decidable.not_not] at h0
        skip
        with_reducible refine Rd.seq (Rd.drop ?_)
        try unfold tBM
        with_reducible refine Rd.var (by walk_at "vr") ?_
        refine ⟨Or.inl ⟨rfl, _, (by walk_at "hpl")⟩, ?_⟩
        with_reducible refine Rd.cons (Rd.tup (Rd.cons (Rd.call (Rd.cons (Rd.var (by walk_at "vr") (Rd.cons (Rd.var (by walk_at "vr") (Rd.cons (Rd.var (by walk_at "vr") (Rd.cons (Rd.var (by walk_at "vr") ?_)))))))))))
        with_reducible refine Rd.nil ?_
        refine ⟨_, _, _, _, rfl, (by walk_at "sc"), (by walk_at "sc"), (by walk_at "sc"), (by walk_at "sc"), (by walk_at "sc"), ?_⟩
        with_reducible refine Rd.cons (Rd.op (Rd.var (by walk_at "vr") (Rd.var (by walk_at "vr") (Rd.i0 (Rd.nil (Rd.laid (by walk_at "ll") ?_))))))
        intro p2 np2
        with_reducible refine Rd.nil ?_
        refine ⟨_, _, _, rfl, rfl, (by walk_at "hp"), (by walk_at "sz"), ?_⟩
        with_reducible refine Rd.ret (Rd.var (by walk_at "vr") ?_)
        exact k _ _ _ (by walk_at "frm") fresh0 (by walk_at "hp") (by unfold maskGaps; rw [← hm, mg_end (i := i) (b := 2 ^ i) (M := M) (by omega) (by omega)]; exact Prs.app (by walk_at "hp") (hp.keep fun q xs h => by have n1 : q ≠ p0 := L2.ne_of h hl (by intro z; cases z); walk_at "hp"))
    · intro σ H R R' hR h
      obtain ⟨v, e1, u, e2, i, j, e3, e4, k, e5, q⟩ := h
      exact ⟨v, e1, u, e2, i, j, e3, e4, k, e5, hR _ _ q⟩
/-! off_spans -/
theorem sc_off_spans : FnScope ["n", "modulus"] ["n", "modulus"] (defScope s_off_spans) := ⟨rfl, rfl, rfl, by decide +kernel, rfl, by decide +kernel, by decide +kernel⟩
abbrev sp_off_spans (K : PySem.W.Frag) (A : Adr) : Sp := fun vs H Q _ => ∃ n M : Int, vs = [.int n, .int M] ∧ 1 ≤ n ∧ n ≤ 100000000000000000000000000000000 ∧ 1 ≤ M ∧ M ≤ 100000000000000000000000000000000 ∧ ∀ (l : Addr) (ws : List V) (H' : Hp), Same H H' → H l = none → H' l = some (.lst ws) → Trips H' ws (offSpans n M) → Q (.ref l) H'
theorem ok_off_spans (T : Txt w K mg A) : FnOk P w K mg base CX0 1 A.f_off_spans A.d_off_spans ["n", "modulus"] (sp_off_spans K A) := by
  refine T.F_off_spans.ok sc_off_spans (fun vs H Q E h => ?_) (fun cdv Ar outer s H vs Q E hr h => ?_)
  · obtain ⟨n, M, rfl, n1, n2, m1, m2, k⟩ := h
    rfl
  · obtain ⟨n, M, rfl, n1, n2, m1, m2, k⟩ := h
    have hu := hu_of hr
    have t_q_PART_NAMES := T.q_PART_NAMES
    have t_q_PART_WORDS_slot := T.q_PART_WORDS_slot
    have t_d_PART_WORDS_slot := T.d_PART_WORDS_slot
    have t_q_PART_WORDS_empty := T.q_PART_WORDS_empty
    have t_d_PART_WORDS_empty := T.d_PART_WORDS_empty
    have t_q_PART_WORDS_when := T.q_PART_WORDS_when
    have t_d_PART_WORDS_when := T.d_PART_WORDS_when
    have t_q_MEASURES := T.q_MEASURES
    have t_q_SIGNS := T.q_SIGNS
    have t_q_PLAIN_FULLS := T.q_PLAIN_FULLS
    have t_i_Form := T.i_Form
    have t_kt_Form_Form := T.kt_Form_Form
    have t_kt_int_Form := T.kt_int_Form
    have t_nf_Form_Form := T.nf_Form_Form
    have t_nf_int_Form := T.nf_int_Form
    have t_k_Form := T.k_Form
    have t_k_Scheme := T.k_Scheme
    rcases (by omega : M ≤ n ∨ (¬ M ≤ n ∧ M < 2 * n) ∨ (¬ M ≤ n ∧ ¬ M < 2 * n)) with h | ⟨h, g⟩ | ⟨h, g⟩
    · have esp : offSpans n M = [(0, M, M)] := if_pos h
      refine ⟨_, (pss_cons (ps_if (pt_cmpR op_le (pv 1) (pv 0) (nomark _)) (pss_one (ps_ret (pe_lst (pa_cons (pe_tup (pa_cons pe_int (pa_cons (pv 1) (pa_cons (pv 1) pa_nil)))) pa_nil)))) pss_nil)
      (pss_cons ps_never (pss_one ps_never))), ?_⟩
      try dsimp only [L2.cxOf, L2.Cx.nox, L2.Cx.wish]
      with_reducible refine Rd.seq (Rd.ifS (Rd.test (Rd.op (Rd.var (by walk_at "vr") (Rd.var (by walk_at "vr") (Rd.i0 (Rd.bl (Rd.iteT (by walk_at "bT") (Rd.ret (Rd.lst (Rd.cons ?_)))))))))))
      with_reducible refine Rd.tup (Rd.cons (Rd.c (Rd.cons (Rd.var (by walk_at "vr") (Rd.cons (Rd.var (by walk_at "vr") (Rd.nil (Rd.laid (by walk_at "ll") ?_))))))))
      intro p1 np1
      with_reducible refine Rd.nil (Rd.laid (by walk_at "ll") ?_)
      intro p0 np0
      exact k _ _ _ (by walk_at "frm") (by walk_at "nn") (by walk_at "hp") (by rw [esp]; exact ⟨⟨_, rfl, (by walk_at "hp")⟩, True.intro⟩)
    · have esp : offSpans n M = [(0, M - n, n), (M - n, n, M), (n, M, M - n)] := by unfold offSpans; rw [if_neg h, if_pos g]
      refine ⟨_, (pss_cons (ps_if (pt_cmpR op_le (pv 1) (pv 0) (nomark _)) (pss_one ps_never) pss_nil)
      (pss_cons (ps_if (pt_cmpR op_lt (pv 1) (pe_op op_mulW pe_int (pv 0)) (nomark _)) (pss_one (ps_ret (pe_lst (pa_cons (pe_tup (pa_cons pe_int (pa_cons (pe_op op_sub (pv 1) (pv 0)) (pa_cons (pv 0) pa_nil)))) (pa_cons (pe_tup (pa_cons (pe_op op_sub (pv 1) (pv 0)) (pa_cons (pv 0) (pa_cons (pv 1) pa_nil)))) (pa_cons (pe_tup (pa_cons (pv 0) (pa_cons (pv 1) (pa_cons (pe_op op_sub (pv 1) (pv 0)) pa_nil)))) pa_nil)))))) pss_nil)
      (pss_one ps_never))), ?_⟩
      try dsimp only [L2.cxOf, L2.Cx.nox, L2.Cx.wish]
      with_reducible refine Rd.seq (Rd.ifS (Rd.test (Rd.op (Rd.var (by walk_at "vr") (Rd.var (by walk_at "vr") (Rd.i0 (Rd.bl (Rd.iteF (by walk_at "bF") (Rd.next (Rd.seq (Rd.ifS ?_)))))))))))
      with_reducible refine Rd.test (Rd.op (Rd.var (by walk_at "vr") (Rd.op (Rd.c (Rd.var (by walk_at "vr") (Rd.iC (by walk_at "scm") (Rd.i0 (Rd.bl (Rd.iteT (by walk_at "bT") (Rd.ret (Rd.lst ?_)))))))))))
      with_reducible refine Rd.cons (Rd.tup (Rd.cons (Rd.c (Rd.cons (Rd.op (Rd.var (by walk_at "vr") (Rd.var (by walk_at "vr") (Rd.i0 (Rd.cons (Rd.var (by walk_at "vr") (Rd.nil ?_)))))))))))
      with_reducible refine Rd.laid (by walk_at "ll") ?_
      intro p3 np3
      with_reducible refine Rd.cons (Rd.tup (Rd.cons (Rd.op (Rd.var (by walk_at "vr") (Rd.var (by walk_at "vr") (Rd.i0 (Rd.cons (Rd.var (by walk_at "vr") (Rd.cons (Rd.var (by walk_at "vr") (Rd.nil ?_)))))))))))
      with_reducible refine Rd.laid (by walk_at "ll") ?_
      intro p4 np4
      with_reducible refine Rd.cons (Rd.tup (Rd.cons (Rd.var (by walk_at "vr") (Rd.cons (Rd.var (by walk_at "vr") (Rd.cons (Rd.op (Rd.var (by walk_at "vr") (Rd.var (by walk_at "vr") (Rd.i0 (Rd.nil ?_)))))))))))
      with_reducible refine Rd.laid (by walk_at "ll") ?_
      intro p5 np5
      with_reducible refine Rd.nil (Rd.laid (by walk_at "ll") ?_)
      intro p2 np2
      exact k _ _ _ (by walk_at "frm") (by walk_at "nn") (by walk_at "hp") (by rw [esp]; exact ⟨⟨_, rfl, (by walk_at "hp")⟩, ⟨_, rfl, (by walk_at "hp")⟩, ⟨_, rfl, (by walk_at "hp")⟩, True.intro⟩)
    · have esp : offSpans n M = [(0, n, n), (n, 2 * n, M - n)] := by unfold offSpans; rw [if_neg h, if_neg g]
      refine ⟨_, (pss_cons (ps_if (pt_cmpR op_le (pv 1) (pv 0) (nomark _)) (pss_one ps_never) pss_nil)
      (pss_cons (ps_if (pt_cmpR op_lt (pv 1) (pe_op op_mulW pe_int (pv 0)) (nomark _)) (pss_one ps_never) pss_nil)
      (pss_one (ps_ret (pe_lst (pa_cons (pe_tup (pa_cons pe_int (pa_cons (pv 0) (pa_cons (pv 0) pa_nil)))) (pa_cons (pe_tup (pa_cons (pv 0) (pa_cons (pe_op op_mulW pe_int (pv 0)) (pa_cons (pe_op op_sub (pv 1) (pv 0)) pa_nil)))) pa_nil))))))), ?_⟩
      try dsimp only [L2.cxOf, L2.Cx.nox, L2.Cx.wish]
      with_reducible refine Rd.seq (Rd.ifS (Rd.test (Rd.op (Rd.var (by walk_at "vr") (Rd.var (by walk_at "vr") (Rd.i0 (Rd.bl (Rd.iteF (by walk_at "bF") (Rd.next (Rd.seq (Rd.ifS ?_)))))))))))
      with_reducible refine Rd.test (Rd.op (Rd.var (by walk_at "vr") (Rd.op (Rd.c (Rd.var (by walk_at "vr") (Rd.iC (by walk_at "scm") (Rd.i0 (Rd.bl (Rd.iteF (by walk_at "bF") (Rd.next (Rd.ret ?_)))))))))))
      with_reducible refine Rd.lst (Rd.cons (Rd.tup (Rd.cons (Rd.c (Rd.cons (Rd.var (by walk_at "vr") (Rd.cons (Rd.var (by walk_at "vr") (Rd.nil (Rd.laid (by walk_at "ll") ?_))))))))))
      intro p7 np7
      with_reducible refine Rd.cons (Rd.tup (Rd.cons (Rd.var (by walk_at "vr") (Rd.cons (Rd.op (Rd.c (Rd.var (by walk_at "vr") (Rd.iC (by walk_at "scm") (Rd.cons (Rd.op (Rd.var (by walk_at "vr") ?_)))))))))))
      with_reducible refine Rd.var (by walk_at "vr") (Rd.i0 (Rd.nil (Rd.laid (by walk_at "ll") ?_)))
      intro p8 np8
      with_reducible refine Rd.nil (Rd.laid (by walk_at "ll") ?_)
      intro p6 np6
      exact k _ _ _ (by walk_at "frm") (by walk_at "nn") (by walk_at "hp") (by rw [esp]; exact ⟨⟨_, rfl, (by walk_at "hp")⟩, ⟨_, rfl, (by walk_at "hp")⟩, True.intro⟩)
/-! rest_spans -/
theorem sc_rest_spans : FnScope ["n", "modulus", "left"] ["n", "modulus"] (defScope s_rest_spans) := ⟨rfl, rfl, rfl, by decide +kernel, rfl, by decide +kernel, by decide +kernel⟩
abbrev sp_rest_spans (K : PySem.W.Frag) (A : Adr) : Sp := fun vs H Q _ => ∃ n M : Int, vs = [.int n, .int M] ∧ 1 ≤ n ∧ n ≤ 100000000000000000000000000000000 ∧ 1 ≤ M ∧ M ≤ 100000000000000000000000000000000 ∧ ∀ (l : Addr) (ws : List V) (H' : Hp), Same H H' → H l = none → H' l = some (.lst ws) → Trips H' ws (restSpans n M) → Q (.ref l) H'
theorem ok_rest_spans (T : Txt w K mg A) : FnOk P w K mg base CX0 1 A.f_rest_spans A.d_rest_spans ["n", "modulus"] (sp_rest_spans K A) := by
  refine T.F_rest_spans.ok sc_rest_spans (fun vs H Q E h => ?_) (fun cdv Ar outer s H vs Q E hr h => ?_)
  · obtain ⟨n, M, rfl, n1, n2, m1, m2, k⟩ := h
    rfl
  · obtain ⟨n, M, rfl, n1, n2, m1, m2, k⟩ := h
    have hu := hu_of hr
    have t_q_PART_NAMES := T.q_PART_NAMES
    have t_q_PART_WORDS_slot := T.q_PART_WORDS_slot
    have t_d_PART_WORDS_slot := T.d_PART_WORDS_slot
    have t_q_PART_WORDS_empty := T.q_PART_WORDS_empty
    have t_d_PART_WORDS_empty := T.d_PART_WORDS_empty
    have t_q_PART_WORDS_when := T.q_PART_WORDS_when
    have t_d_PART_WORDS_when := T.d_PART_WORDS_when
    have t_q_MEASURES := T.q_MEASURES
    have t_q_SIGNS := T.q_SIGNS
    have t_q_PLAIN_FULLS := T.q_PLAIN_FULLS
    have t_i_Form := T.i_Form
    have t_kt_Form_Form := T.kt_Form_Form
    have t_kt_int_Form := T.kt_int_Form
    have t_nf_Form_Form := T.nf_Form_Form
    have t_nf_int_Form := T.nf_int_Form
    have t_k_Form := T.k_Form
    have t_k_Scheme := T.k_Scheme
    have e1 := Int.emod_nonneg M (show n ≠ 0 by omega)
    have e2 := Int.emod_lt_of_pos M (show 0 < n by omega)
    rcases (by omega : M ≤ n ∨ (¬ M ≤ n ∧ M % n = 0) ∨ (¬ M ≤ n ∧ ¬ M % n = 0)) with h | ⟨h, g⟩ | ⟨h, g⟩
    · have esp : restSpans n M = [(0, M, M)] := if_pos h
      refine ⟨_, (pss_cons (ps_if (pt_cmpR op_le (pv 1) (pv 0) (nomark _)) (pss_one (ps_ret (pe_lst (pa_cons (pe_tup (pa_cons pe_int (pa_cons (pv 1) (pa_cons (pv 1) pa_nil)))) pa_nil)))) pss_nil)
      (pss_cons ps_never (pss_cons ps_never (pss_one ps_never)))), ?_⟩
      try dsimp only [L2.cxOf, L2.Cx.nox, L2.Cx.wish]
      with_reducible refine Rd.seq (Rd.ifS (Rd.test (Rd.op (Rd.var (by walk_at "vr") (Rd.var (by walk_at "vr") (Rd.i0 (Rd.bl (Rd.iteT (by walk_at "bT") (Rd.ret (Rd.lst (Rd.cons ?_)))))))))))
      with_reducible refine Rd.tup (Rd.cons (Rd.c (Rd.cons (Rd.var (by walk_at "vr") (Rd.cons (Rd.var (by walk_at "vr") (Rd.nil (Rd.laid (by walk_at "ll") ?_))))))))
      intro p1 np1
      with_reducible refine Rd.nil (Rd.laid (by walk_at "ll") ?_)
      intro p0 np0
      exact k _ _ _ (by walk_at "frm") (by walk_at "nn") (by walk_at "hp") (by rw [esp]; exact ⟨⟨_, rfl, (by walk_at "hp")⟩, True.intro⟩)
    · have esp : restSpans n M = [(0, M, n)] := by unfold restSpans; rw [if_neg h, if_pos g]
      refine ⟨_, (pss_cons (ps_if (pt_cmpR op_le (pv 1) (pv 0) (nomark _)) (pss_one ps_never) pss_nil)
      (pss_cons (ps_set (i := 2) sc_rest_spans.nd rfl (Or.inl rfl) (pe_op op_mod (pv 1) (pv 0)))
      (pss_cons (ps_if (pt_cmpR op_eq (pv 2) pe_int (nomark _)) (pss_one (ps_ret (pe_lst (pa_cons (pe_tup (pa_cons pe_int (pa_cons (pv 1) (pa_cons (pv 0) pa_nil)))) pa_nil)))) pss_nil)
      (pss_one ps_never)))), ?_⟩
      try dsimp only [L2.cxOf, L2.Cx.nox, L2.Cx.wish]
      with_reducible refine Rd.seq (Rd.ifS (Rd.test (Rd.op (Rd.var (by walk_at "vr") (Rd.var (by walk_at "vr") (Rd.i0 (Rd.bl (Rd.iteF (by walk_at "bF") (Rd.next (Rd.seq (Rd.asg ?_)))))))))))
      with_reducible refine Rd.op (Rd.var (by walk_at "vr") (Rd.var (by walk_at "vr") (Rd.iC (by walk_at "sc") (Rd.name (Rd.seq (Rd.ifS (Rd.test (Rd.op (Rd.var (by walk_at "vr") (Rd.c (Rd.eqS (by walk_at "vr") ?_)))))))))))
      with_reducible refine Rd.bl (Rd.iteT (by walk_at "bT") (Rd.ret (Rd.lst (Rd.cons (Rd.tup (Rd.cons (Rd.c (Rd.cons (Rd.var (by walk_at "vr") (Rd.cons (Rd.var (by walk_at "vr") ?_)))))))))))
      with_reducible refine Rd.nil (Rd.laid (by walk_at "ll") ?_)
      intro p3 np3
      with_reducible refine Rd.nil (Rd.laid (by walk_at "ll") ?_)
      intro p2 np2
      exact k _ _ _ (by walk_at "frm") (by walk_at "nn") (by walk_at "hp") (by rw [esp]; exact ⟨⟨_, rfl, (by walk_at "hp")⟩, True.intro⟩)
    · have esp : restSpans n M = [(0, M - n, n), (M - n, M - M % n, n + M % n), (M - M % n, M, M % n)] := by unfold restSpans; rw [if_neg h, if_neg g]
      refine ⟨_, (pss_cons (ps_if (pt_cmpR op_le (pv 1) (pv 0) (nomark _)) (pss_one ps_never) pss_nil)
      (pss_cons (ps_set (i := 2) sc_rest_spans.nd rfl (Or.inl rfl) (pe_op op_mod (pv 1) (pv 0)))
      (pss_cons (ps_if (pt_cmpR op_eq (pv 2) pe_int (nomark _)) (pss_one ps_never) pss_nil)
      (pss_one (ps_ret (pe_lst (pa_cons (pe_tup (pa_cons pe_int (pa_cons (pe_op op_sub (pv 1) (pv 0)) (pa_cons (pv 0) pa_nil)))) (pa_cons (pe_tup (pa_cons (pe_op op_sub (pv 1) (pv 0)) (pa_cons (pe_op op_sub (pv 1) (pv 2)) (pa_cons (pe_op op_add (pv 0) (pv 2)) pa_nil)))) (pa_cons (pe_tup (pa_cons (pe_op op_sub (pv 1) (pv 2)) (pa_cons (pv 1) (pa_cons (pv 2) pa_nil)))) pa_nil))))))))), ?_⟩
      try dsimp only [L2.cxOf, L2.Cx.nox, L2.Cx.wish]
      with_reducible refine Rd.seq (Rd.ifS (Rd.test (Rd.op (Rd.var (by walk_at "vr") (Rd.var (by walk_at "vr") (Rd.i0 (Rd.bl (Rd.iteF (by walk_at "bF") (Rd.next (Rd.seq (Rd.asg ?_)))))))))))
      with_reducible refine Rd.op (Rd.var (by walk_at "vr") (Rd.var (by walk_at "vr") (Rd.iC (by walk_at "sc") (Rd.name (Rd.seq (Rd.ifS (Rd.test (Rd.op (Rd.var (by walk_at "vr") (Rd.c (Rd.eqS (by walk_at "vr") ?_)))))))))))
      with_reducible refine Rd.bl (Rd.iteF (by walk_at "bF") (Rd.next (Rd.ret (Rd.lst (Rd.cons (Rd.tup (Rd.cons (Rd.c (Rd.cons (Rd.op (Rd.var (by walk_at "vr") ?_)))))))))))
      with_reducible refine Rd.var (by walk_at "vr") (Rd.i0 (Rd.cons (Rd.var (by walk_at "vr") (Rd.nil (Rd.laid (by walk_at "ll") ?_)))))
      intro p5 np5
      with_reducible refine Rd.cons (Rd.tup (Rd.cons (Rd.op (Rd.var (by walk_at "vr") (Rd.var (by walk_at "vr") (Rd.i0 (Rd.cons (Rd.op (Rd.var (by walk_at "vr") (Rd.var (by walk_at "vr") (Rd.i0 ?_)))))))))))
      with_reducible refine Rd.cons (Rd.op (Rd.var (by walk_at "vr") (Rd.var (by walk_at "vr") (Rd.i0 (Rd.nil (Rd.laid (by walk_at "ll") ?_))))))
      intro p6 np6
      with_reducible refine Rd.cons (Rd.tup (Rd.cons (Rd.op (Rd.var (by walk_at "vr") (Rd.var (by walk_at "vr") (Rd.i0 (Rd.cons (Rd.var (by walk_at "vr") (Rd.cons (Rd.var (by walk_at "vr") (Rd.nil ?_)))))))))))
      with_reducible refine Rd.laid (by walk_at "ll") ?_
      intro p7 np7
      with_reducible refine Rd.nil (Rd.laid (by walk_at "ll") ?_)
      intro p4 np4
      exact k _ _ _ (by walk_at "frm") (by walk_at "nn") (by walk_at "hp") (by rw [esp]; exact ⟨⟨_, rfl, (by walk_at "hp")⟩, ⟨_, rfl, (by walk_at "hp")⟩, ⟨_, rfl, (by walk_at "hp")⟩, True.intro⟩)
/-! steps_to_span -/
theorem sc_steps_to_span : FnScope ["first", "end", "modulus", "c"] ["first", "end", "modulus", "c"] (defScope s_steps_to_span) := ⟨rfl, rfl, rfl, by decide +kernel, rfl, by decide +kernel, by decide +kernel⟩
abbrev sp_steps_to_span (K : PySem.W.Frag) (A : Adr) : Sp := fun vs H Q _ => ∃ f e M c : Int, vs = [.int f, .int e, .int M, .int c] ∧ 1 ≤ M ∧ Q (.int (stepsTo f e M c)) H
theorem ok_steps_to_span (T : Txt w K mg A) : FnOk P w K mg base CX0 1 A.f_steps_to_span A.d_steps_to_span ["first", "end", "modulus", "c"] (sp_steps_to_span K A) := by
  refine T.F_steps_to_span.ok sc_steps_to_span (fun vs H Q E h => ?_) (fun cdv Ar outer s H vs Q E hr h => ?_)
  · obtain ⟨f, e, M, c, rfl, m1, k⟩ := h
    rfl
  · obtain ⟨f, e, M, c, rfl, m1, k⟩ := h
    have hu := hu_of hr
    have t_q_PART_NAMES := T.q_PART_NAMES
    have t_q_PART_WORDS_slot := T.q_PART_WORDS_slot
    have t_d_PART_WORDS_slot := T.d_PART_WORDS_slot
    have t_q_PART_WORDS_empty := T.q_PART_WORDS_empty
    have t_d_PART_WORDS_empty := T.d_PART_WORDS_empty
    have t_q_PART_WORDS_when := T.q_PART_WORDS_when
    have t_d_PART_WORDS_when := T.d_PART_WORDS_when
    have t_q_MEASURES := T.q_MEASURES
    have t_q_SIGNS := T.q_SIGNS
    have t_q_PLAIN_FULLS := T.q_PLAIN_FULLS
    have t_i_Form := T.i_Form
    have t_kt_Form_Form := T.kt_Form_Form
    have t_kt_int_Form := T.kt_int_Form
    have t_nf_Form_Form := T.nf_Form_Form
    have t_nf_int_Form := T.nf_int_Form
    have t_k_Form := T.k_Form
    have t_k_Scheme := T.k_Scheme
    rcases (by omega : (f ≤ c ∧ c < e) ∨ ¬ (f ≤ c ∧ c < e)) with h | h
    · skip
      refine ⟨_, (pss_cons (ps_if (pt_chain op_le op_lt (pv 0) (pv 3) (pv 1)) (pss_one (ps_ret pe_int)) pss_nil)
      (pss_one ps_never)), ?_⟩
      try dsimp only [L2.cxOf, L2.Cx.nox, L2.Cx.wish]
      with_reducible refine Rd.seq (Rd.ifS (Rd.test (Rd.chain (Rd.var (by walk_at "vr") (Rd.var (by walk_at "vr") (Rd.i0 (Rd.bl (Rd.iteT (by walk_at "bT") (Rd.var (by walk_at "vr") (Rd.i0 (Rd.bl ?_)))))))))))
      with_reducible refine Rd.iteT (by walk_at "bT") (Rd.ret (Rd.c ?_))
      unfold stepsTo at k
      rw [if_pos h] at k
      exact k
    · skip
      refine ⟨_, (pss_cons (ps_if (pt_chain op_le op_lt (pv 0) (pv 3) (pv 1)) (pss_one ps_never) pss_nil)
      (pss_one (ps_ret (pe_op op_mod (pe_op op_sub (pv 0) (pv 3)) (pv 2))))), ?_⟩
      try dsimp only [L2.cxOf, L2.Cx.nox, L2.Cx.wish]
      with_reducible refine Rd.seq (Rd.ifS (Rd.test (Rd.chain (Rd.var (by walk_at "vr") (Rd.var (by walk_at "vr") (Rd.i0 (Rd.bl ?_)))))))
      refine' Rd.chainP (d := _) (fun Q0 hq0 => ?pa0) ?pb0
      case pa0 =>
        with_reducible refine Rd.var (by walk_at "vr") (Rd.i0 ?_)
        exact hq0
      rotate_left 0
      with_reducible refine Rd.bl (Rd.iteF (by walk_at "bF") (Rd.next (Rd.ret (Rd.op (Rd.op (Rd.var (by walk_at "vr") (Rd.var (by walk_at "vr") (Rd.i0 (Rd.var (by walk_at "vr") (Rd.iC (by walk_at "sc") ?_))))))))))
      unfold stepsTo at k
      rw [if_neg h] at k
      exact k
/-! gaps_from -/
theorem sc_gaps_from : FnScope ["kind", "n", "modulus", "c", "spans", "first", "end", "gap"] ["kind", "n", "modulus", "c"] (defScope s_gaps_from) := ⟨rfl, rfl, rfl, by decide +kernel, rfl, by decide +kernel, by decide +kernel⟩
abbrev sp_gaps_from (K : PySem.W.Frag) (A : Adr) : Sp := fun vs H Q _ => ∃ (k : Str) (n M c : Int), vs = [.str k, .int n, .int M, .int c] ∧ k ∈ wSlot ∧ 1 ≤ n ∧ n ≤ 100000000000000000000000000000000 ∧ 1 ≤ M ∧ M ≤ 100000000000000000000000000000000 ∧ 0 ≤ c ∧ c < M ∧ (k = "mask" → ∃ w : Nat, w ≤ 100 ∧ M = 2 ^ w) ∧ ∀ (l : Addr) (ws : List V) (H' : Hp), Same H H' → H l = none → H' l = some (.lst ws) → Prs H' ws (gapsM k n M c) → Q (.ref l) H'
theorem ok_gaps_from (T : Txt w K mg A) : FnOk P w K mg base CX0 3 A.f_gaps_from A.d_gaps_from ["kind", "n", "modulus", "c"] (sp_gaps_from K A) := by
  refine T.F_gaps_from.ok sc_gaps_from (fun vs H Q E h => ?_) (fun cdv Ar outer s H vs Q E hr h => ?_)
  · obtain ⟨kd, n, M, c, rfl, hk, n1, n2, m1, m2, c1, c2, hpw, k⟩ := h
    rfl
  · obtain ⟨kd, n, M, c, rfl, hk, n1, n2, m1, m2, c1, c2, hpw, k⟩ := h
    have hu := hu_of hr
    have t_q_PART_NAMES := T.q_PART_NAMES
    have t_q_PART_WORDS_slot := T.q_PART_WORDS_slot
    have t_d_PART_WORDS_slot := T.d_PART_WORDS_slot
    have t_q_PART_WORDS_empty := T.q_PART_WORDS_empty
    have t_d_PART_WORDS_empty := T.d_PART_WORDS_empty
    have t_q_PART_WORDS_when := T.q_PART_WORDS_when
    have t_d_PART_WORDS_when := T.d_PART_WORDS_when
    have t_q_MEASURES := T.q_MEASURES
    have t_q_SIGNS := T.q_SIGNS
    have t_q_PLAIN_FULLS := T.q_PLAIN_FULLS
    have t_i_Form := T.i_Form
    have t_kt_Form_Form := T.kt_Form_Form
    have t_kt_int_Form := T.kt_int_Form
    have t_nf_Form_Form := T.nf_Form_Form
    have t_nf_int_Form := T.nf_int_Form
    have t_k_Form := T.k_Form
    have t_k_Scheme := T.k_Scheme
    rcases slot3 hk with rfl | rfl | rfl
    rotate_left 1
    · obtain ⟨w, w1, hw⟩ := hpw rfl
      refine ⟨_, (pss_cons (ps_if (pt_cmpR op_eq (pv 0) pe_str (nomark _)) (pss_one (ps_ret (pe_call (ok_mask_gaps T) (hr.mono (by decide)) (by rfl) T.m_mask_gaps T.F_mask_gaps.kp T.b_mask_gaps .nil pass0 (pa_cons (pv 1) (pa_cons (pv 2) (pa_cons (pv 3) pa_nil)))))) pss_nil)
      (pss_cons ps_never (pss_cons ps_never (pss_one ps_never)))), ?_⟩
      try dsimp only [L2.cxOf, L2.Cx.nox, L2.Cx.wish]
      with_reducible refine Rd.seq (Rd.ifS (Rd.test (Rd.op (Rd.var (by walk_at "vr") (Rd.c (Rd.eqS (by walk_at "vr") (Rd.bl (Rd.iteT (by first | with_unfolding_all rfl | walk_at "bT") (Rd.ret (Rd.call (Rd.cons ?_)))))))))))
      with_reducible refine Rd.var (by walk_at "vr") (Rd.cons (Rd.var (by walk_at "vr") (Rd.cons (Rd.var (by walk_at "vr") (Rd.nil ?_)))))
      refine ⟨_, _, _, w, rfl, (by walk_at "sc"), (by walk_at "sc"), (by walk_at "sc"), (by walk_at "sc"), (by walk_at "sc"), (by walk_at "sc"), w1, hw, fun l1 ws1 H1 S1 nl1 hl1 hg1 => ?_⟩
      rw [gapsM_mask] at k
      exact k _ _ _ (by assumption) (by assumption) (by assumption) (by assumption)
    · skip
      refine ⟨_, (pss_cons (ps_if (pt_cmpR op_eq (pv 0) pe_str (nomark _)) (pss_one ps_never) pss_nil)
      (pss_cons (ps_set (i := 4) sc_gaps_from.nd rfl (Or.inl rfl) (pe_call (ok_rest_spans T) (hr.mono (by decide)) (by rfl) T.m_rest_spans T.F_rest_spans.kp T.b_rest_spans .nil pass0 (pa_cons (pv 1) (pa_cons (pv 2) pa_nil))))
      (pss_cons (ps_if (pt_cmpR op_eq (pv 0) pe_str (nomark _)) (pss_one (ps_set (i := 4) sc_gaps_from.nd rfl (Or.inl rfl) (pe_call (ok_off_spans T) (hr.mono (by decide)) (by rfl) T.m_off_spans T.F_off_spans.kp T.b_off_spans .nil pass0 (pa_cons (pv 1) (pa_cons (pv 2) pa_nil))))) pss_nil)
      (pss_one (ps_ret (pe_lc (own := [("first", 5), ("end", 6), ("gap", 7)]) (g := gTup K 3 (gCons (gName 5) (gCons (gName 6) (gCons (gName 7) gNil)))) rfl sc_gaps_from.nd (pi_list (pv 4)) (blkOk_by (own := [("first", 5), ("end", 6), ("gap", 7)]) (N := ["kind", "n", "modulus", "c", "spans", "first", "end", "gap"]) (sc := defScope s_gaps_from) (by decide +kernel)) (fun _ _ _ _ _ => pg_tup (by rfl) (pgs_cons (pg_name (i := 5) sc_gaps_from.nd rfl (Or.inl rfl)) (pgs_cons (pg_name (i := 6) sc_gaps_from.nd rfl (Or.inl rfl)) (pgs_cons (pg_name (i := 7) sc_gaps_from.nd rfl (Or.inl rfl)) pgs_nil)))) (fun _ _ _ _ _ => pts_nil) (fun _ _ _ _ _ => (pe_tup (pa_cons (pe_call (ok_steps_to_span T) (hr.mono (by decide)) (by rfl) T.m_steps_to_span T.F_steps_to_span.kp T.b_steps_to_span .nil pass0 (pa_cons (pv 5) (pa_cons (pv 6) (pa_cons (pv 2) (pa_cons (pv 3) pa_nil))))) (pa_cons (pv 7) pa_nil)))))))))), ?_⟩
      try dsimp only [L2.cxOf, L2.Cx.nox, L2.Cx.wish]
      with_reducible refine Rd.seq (Rd.ifS (Rd.test (Rd.op (Rd.var (by walk_at "vr") (Rd.c (Rd.eqS (by walk_at "vr") (Rd.bl (Rd.iteF (by first | with_unfolding_all rfl | walk_at "bF") (Rd.next (Rd.seq (Rd.asg ?_)))))))))))
      with_reducible refine Rd.call (Rd.cons (Rd.var (by walk_at "vr") (Rd.cons (Rd.var (by walk_at "vr") (Rd.nil ?_)))))
      refine ⟨_, _, rfl, (by walk_at "sc"), (by walk_at "sc"), (by walk_at "sc"), (by walk_at "sc"), fun l1 ws1 H1 S1 nl1 hl1 ht1 => ?_⟩
      with_reducible refine Rd.name (Rd.seq (Rd.ifS (Rd.test (Rd.op (Rd.var (by walk_at "vr") (Rd.c (Rd.eqS (by walk_at "vr") (Rd.bl (Rd.iteT (by first | with_unfolding_all rfl | walk_at "bT") (Rd.asg (Rd.call ?_)))))))))))
      with_reducible refine Rd.cons (Rd.var (by walk_at "vr") (Rd.cons (Rd.var (by walk_at "vr") (Rd.nil ?_))))
      refine ⟨_, _, rfl, (by walk_at "sc"), (by walk_at "sc"), (by walk_at "sc"), (by walk_at "sc"), fun l2 ws2 H2 S2 nl2 hl2 ht2 => ?_⟩
      with_reducible refine Rd.name (Rd.ret (Rd.lc (Rd.il (Rd.var (by walk_at "vr") ?_))))
      refine ⟨_, rfl, ⟨_, (by walk_at "hpl")⟩, ?_⟩
      intro D0 nD0
      refine' lc_list (fun i H' => Same H2 H' ∧ ∃ acc, H' D0 = some (.lst acc) ∧ Prs H' acc (gapsOf ((offSpans n M).take i) M c)) (⟨by walk_at "frm", [], L2.upd_same, True.intro⟩) (fun i H' _ p => .of (p.1 _ _ hl2)) (fun i x H' hx p => ?lct0_u12) (fun H' p => ?lcd0_u12)
      case lct0_u12 =>
        obtain ⟨S0, acc, hD, hP⟩ := p
        obtain ⟨pt, ⟨tf, te, tg⟩, hti, rfl, hpt⟩ := ht2.at hx
        have hpt0 := S0 _ _ hpt
        have al : acc.length ≤ 3 := by
          rw [hP.len]
          have := off_len n M
          unfold gapsOf
          rw [List.length_map, List.length_take]
          omega
        have D0ne : D0 ≠ pt := L2.ne_of hD hpt0 (by intro z; cases z)
        refine Rd.gtup (by walk_at "hpt") rfl ?_
        with_reducible refine Rd.gcons (Rd.name (Rd.gcons (Rd.name (Rd.gcons (Rd.name (Rd.gnil ?_))))))
        refine ⟨rfl, ?_⟩
        refine Rd.yes (Rd.iteT rfl ?_)
        with_reducible refine Rd.tup (Rd.cons (Rd.call (Rd.cons (Rd.var (by walk_at "vr") (Rd.cons (Rd.var (by walk_at "vr") (Rd.cons (Rd.var (by walk_at "vr") (Rd.cons (Rd.var (by walk_at "vr") (Rd.nil ?_)))))))))))
        refine ⟨_, _, _, _, rfl, (by walk_at "sc"), ?_⟩
        with_reducible refine Rd.cons (Rd.var (by walk_at "vr") (Rd.nil (Rd.laid (by walk_at "ll") ?_)))
        intro p1 np1
        refine ⟨_, (by walk_at "hp"), (by walk_at "sz"), ?_⟩
        refine ⟨by walk_at "frm", _, L2.upd_same, ?_⟩
        have e9 : gapsOf ((offSpans n M).take (i + 1)) M c = gapsOf ((offSpans n M).take i) M c ++ [(stepsTo tf te M c, tg)] := by
          unfold gapsOf
          rw [List.take_add_one, hti, List.map_append]
          rfl
        rw [e9]
        refine Prs.app (by walk_at "hp") (hP.keep fun p xs h => ?_)
        have n1 : p ≠ D0 := L2.ne_of h hD (by intro z; cases z)
        walk_at "hp"
      obtain ⟨S0, acc, hD, hP⟩ := p
      rw [ht2.len, List.take_length] at hP
      rw [gapsM_off] at k
      exact k _ _ _ (by walk_at "frm") (by walk_at "nn") hD hP
    · skip
      refine ⟨_, (pss_cons (ps_if (pt_cmpR op_eq (pv 0) pe_str (nomark _)) (pss_one ps_never) pss_nil)
      (pss_cons (ps_set (i := 4) sc_gaps_from.nd rfl (Or.inl rfl) (pe_call (ok_rest_spans T) (hr.mono (by decide)) (by rfl) T.m_rest_spans T.F_rest_spans.kp T.b_rest_spans .nil pass0 (pa_cons (pv 1) (pa_cons (pv 2) pa_nil))))
      (pss_cons (ps_if (pt_cmpR op_eq (pv 0) pe_str (nomark _)) (pss_one ps_never) pss_nil)
      (pss_one (ps_ret (pe_lc (own := [("first", 5), ("end", 6), ("gap", 7)]) (g := gTup K 3 (gCons (gName 5) (gCons (gName 6) (gCons (gName 7) gNil)))) rfl sc_gaps_from.nd (pi_list (pv 4)) (blkOk_by (own := [("first", 5), ("end", 6), ("gap", 7)]) (N := ["kind", "n", "modulus", "c", "spans", "first", "end", "gap"]) (sc := defScope s_gaps_from) (by decide +kernel)) (fun _ _ _ _ _ => pg_tup (by rfl) (pgs_cons (pg_name (i := 5) sc_gaps_from.nd rfl (Or.inl rfl)) (pgs_cons (pg_name (i := 6) sc_gaps_from.nd rfl (Or.inl rfl)) (pgs_cons (pg_name (i := 7) sc_gaps_from.nd rfl (Or.inl rfl)) pgs_nil)))) (fun _ _ _ _ _ => pts_nil) (fun _ _ _ _ _ => (pe_tup (pa_cons (pe_call (ok_steps_to_span T) (hr.mono (by decide)) (by rfl) T.m_steps_to_span T.F_steps_to_span.kp T.b_steps_to_span .nil pass0 (pa_cons (pv 5) (pa_cons (pv 6) (pa_cons (pv 2) (pa_cons (pv 3) pa_nil))))) (pa_cons (pv 7) pa_nil)))))))))), ?_⟩
      try dsimp only [L2.cxOf, L2.Cx.nox, L2.Cx.wish]
      with_reducible refine Rd.seq (Rd.ifS (Rd.test (Rd.op (Rd.var (by walk_at "vr") (Rd.c (Rd.eqS (by walk_at "vr") (Rd.bl (Rd.iteF (by first | with_unfolding_all rfl | walk_at "bF") (Rd.next (Rd.seq (Rd.asg ?_)))))))))))
      with_reducible refine Rd.call (Rd.cons (Rd.var (by walk_at "vr") (Rd.cons (Rd.var (by walk_at "vr") (Rd.nil ?_)))))
      refine ⟨_, _, rfl, (by walk_at "sc"), (by walk_at "sc"), (by walk_at "sc"), (by walk_at "sc"), fun l1 ws1 H1 S1 nl1 hl1 ht1 => ?_⟩
      with_reducible refine Rd.name (Rd.seq (Rd.ifS (Rd.test (Rd.op (Rd.var (by walk_at "vr") (Rd.c (Rd.eqS (by walk_at "vr") (Rd.bl (Rd.iteF (by first | with_unfolding_all rfl | walk_at "bF") (Rd.next (Rd.ret ?_)))))))))))
      with_reducible refine Rd.lc (Rd.il (Rd.var (by walk_at "vr") ?_))
      refine ⟨_, rfl, ⟨_, (by walk_at "hpl")⟩, ?_⟩
      intro D0 nD0
      refine' lc_list (fun i H' => Same H1 H' ∧ ∃ acc, H' D0 = some (.lst acc) ∧ Prs H' acc (gapsOf ((restSpans n M).take i) M c)) (⟨by walk_at "frm", [], L2.upd_same, True.intro⟩) (fun i H' _ p => .of (p.1 _ _ hl1)) (fun i x H' hx p => ?lct0_u13) (fun H' p => ?lcd0_u13)
      case lct0_u13 =>
        obtain ⟨S0, acc, hD, hP⟩ := p
        obtain ⟨pt, ⟨tf, te, tg⟩, hti, rfl, hpt⟩ := ht1.at hx
        have hpt0 := S0 _ _ hpt
        have al : acc.length ≤ 3 := by
          rw [hP.len]
          have := rest_len n M
          unfold gapsOf
          rw [List.length_map, List.length_take]
          omega
        have D0ne : D0 ≠ pt := L2.ne_of hD hpt0 (by intro z; cases z)
        refine Rd.gtup (by walk_at "hpt") rfl ?_
        with_reducible refine Rd.gcons (Rd.name (Rd.gcons (Rd.name (Rd.gcons (Rd.name (Rd.gnil ?_))))))
        refine ⟨rfl, ?_⟩
        refine Rd.yes (Rd.iteT rfl ?_)
        with_reducible refine Rd.tup (Rd.cons (Rd.call (Rd.cons (Rd.var (by walk_at "vr") (Rd.cons (Rd.var (by walk_at "vr") (Rd.cons (Rd.var (by walk_at "vr") (Rd.cons (Rd.var (by walk_at "vr") (Rd.nil ?_)))))))))))
        refine ⟨_, _, _, _, rfl, (by walk_at "sc"), ?_⟩
        with_reducible refine Rd.cons (Rd.var (by walk_at "vr") (Rd.nil (Rd.laid (by walk_at "ll") ?_)))
        intro p1 np1
        refine ⟨_, (by walk_at "hp"), (by walk_at "sz"), ?_⟩
        refine ⟨by walk_at "frm", _, L2.upd_same, ?_⟩
        have e9 : gapsOf ((restSpans n M).take (i + 1)) M c = gapsOf ((restSpans n M).take i) M c ++ [(stepsTo tf te M c, tg)] := by
          unfold gapsOf
          rw [List.take_add_one, hti, List.map_append]
          rfl
        rw [e9]
        refine Prs.app (by walk_at "hp") (hP.keep fun p xs h => ?_)
        have n1 : p ≠ D0 := L2.ne_of h hD (by intro z; cases z)
        walk_at "hp"
      obtain ⟨S0, acc, hD, hP⟩ := p
      rw [ht1.len, List.take_length] at hP
      rw [gapsM_rest] at k
      exact k _ _ _ (by walk_at "frm") (by walk_at "nn") hD hP
/-! lowest_bit -/
theorem sc_lowest_bit : FnScope ["n"] ["n"] (defScope s_lowest_bit) := ⟨rfl, rfl, rfl, by decide +kernel, rfl, by decide +kernel, by decide +kernel⟩
def sp_lowest_bit (P : Program) (w : World) (mg : Str → Option Value) (base : Heap) (K : PySem.W.Frag) (A : Adr) : Sp := fun vs H Q E => vs.length = 1 ∧ ∀ (cdv : Value) (Ar : Around) (outer : List Env) (s : Shared), Room 0 (Ar.deeper (PyProof.Rows.envOfC "lowest_bit" (defScope s_lowest_bit) s.heap.objs.size A.f_lowest_bit cdv)) → ∃ t, PSs (cxOf CX0 P w K mg base ["n"] "lowest_bit" (defScope s_lowest_bit) A.f_lowest_bit cdv Ar outer s H E).nox (defBody s_lowest_bit) t ∧ t { nx := fun _ H' => Q .non H', rt := Q } (start ["n"] vs) H
theorem in_lowest_bit {vs : List V} {H : Hp} {Q : VK} {E : XK} (h : ∀ (cdv : Value) (Ar : Around) (outer : List Env) (s : Shared), Room 0 (Ar.deeper (PyProof.Rows.envOfC "lowest_bit" (defScope s_lowest_bit) s.heap.objs.size A.f_lowest_bit cdv)) → ∃ t, PSs (cxOf CX0 P w K mg base ["n"] "lowest_bit" (defScope s_lowest_bit) A.f_lowest_bit cdv Ar outer s H E).nox (defBody s_lowest_bit) t ∧ t { nx := fun _ H' => Q .non H', rt := Q } (start ["n"] vs) H) (e : vs.length = 1) : sp_lowest_bit P w mg base K A vs H Q E := ⟨e, h⟩
theorem ok_lowest_bit (T : Txt w K mg A) : FnOk P w K mg base CX0 1 A.f_lowest_bit A.d_lowest_bit ["n"] (sp_lowest_bit P w mg base K A) := T.F_lowest_bit.ok sc_lowest_bit (fun _ _ _ _ h => h.1) (fun cdv Ar outer s H vs Q E hr h => h.2 cdv Ar outer s hr)
/-! is_whole -/
theorem sc_is_whole : FnScope ["thing"] ["thing"] (defScope s_is_whole) := ⟨rfl, rfl, rfl, by decide +kernel, rfl, by decide +kernel, by decide +kernel⟩
abbrev sp_is_whole (K : PySem.W.Frag) (A : Adr) : Sp := fun vs H Q _ => ∃ i : Int, vs = [.int i] ∧ Q (.bl true) H
theorem ok_is_whole (T : Txt w K mg A) : FnOk P w K mg base CX0 1 A.f_is_whole A.d_is_whole ["thing"] (sp_is_whole K A) := by
  refine T.F_is_whole.ok sc_is_whole (fun vs H Q E h => ?_) (fun cdv Ar outer s H vs Q E hr h => ?_)
  · obtain ⟨i, rfl, k⟩ := h
    rfl
  · obtain ⟨i, rfl, k⟩ := h
    have hu := hu_of hr
    have t_q_PART_NAMES := T.q_PART_NAMES
    have t_q_PART_WORDS_slot := T.q_PART_WORDS_slot
    have t_d_PART_WORDS_slot := T.d_PART_WORDS_slot
    have t_q_PART_WORDS_empty := T.q_PART_WORDS_empty
    have t_d_PART_WORDS_empty := T.d_PART_WORDS_empty
    have t_q_PART_WORDS_when := T.q_PART_WORDS_when
    have t_d_PART_WORDS_when := T.d_PART_WORDS_when
    have t_q_MEASURES := T.q_MEASURES
    have t_q_SIGNS := T.q_SIGNS
    have t_q_PLAIN_FULLS := T.q_PLAIN_FULLS
    have t_i_Form := T.i_Form
    have t_kt_Form_Form := T.kt_Form_Form
    have t_kt_int_Form := T.kt_int_Form
    have t_nf_Form_Form := T.nf_Form_Form
    have t_nf_int_Form := T.nf_int_Form
    have t_k_Form := T.k_Form
    have t_k_Scheme := T.k_Scheme
    refine ⟨_, (pss_one (ps_ret (pe_and (pe_callB (Rd.isi (K := K) rfl) (by rfl) T.n_isinstance (by decide +kernel) (pa_cons (pv 0) (pa_cons (pe_bltn (v := .ty "int") (u := .type "int") (by rfl) T.n_int (by decide +kernel) rfl) pa_nil))) (pe_one (pe_not (pe_callB (Rd.isi (K := K) rfl) (by rfl) T.n_isinstance (by decide +kernel) (pa_cons (pv 0) (pa_cons (pe_bltn (v := .ty "bool") (u := .type "bool") (by rfl) T.n_bool (by decide +kernel) rfl) pa_nil)))))))), ?_⟩
    try dsimp only [L2.cxOf, L2.Cx.nox, L2.Cx.wish]
    with_reducible refine Rd.ret (Rd.andV (Rd.cB (Rd.cons (Rd.var (by walk_at "vr") (Rd.cons (Rd.c (Rd.nil ?_)))))))
    refine ⟨_, _, _, _, _, rfl, (by walk_at "clsv"), (by walk_at "tyx"), (by walk_at "kit"), ?_⟩
    with_reducible refine Rd.bl (Rd.iteT (by first | with_unfolding_all rfl | walk_at "bT") (Rd.notV (Rd.cB (Rd.cons (Rd.var (by walk_at "vr") (Rd.cons (Rd.c (Rd.nil ?_))))))))
    refine ⟨_, _, _, _, _, rfl, (by walk_at "clsv"), (by walk_at "tyx"), (by walk_at "kit"), ?_⟩
    with_reducible refine Rd.bl ?_
    exact k
/-! is_whole_from -/
theorem sc_is_whole_from : FnScope ["thing", "low", "high"] ["thing", "low", "high"] (defScope s_is_whole_from) := ⟨rfl, rfl, rfl, by decide +kernel, rfl, by decide +kernel, by decide +kernel⟩
abbrev sp_is_whole_from (K : PySem.W.Frag) (A : Adr) : Sp := fun vs H Q _ => ∃ i lo hi : Int, vs = [.int i, .int lo, .int hi] ∧ lo ≤ i ∧ i ≤ hi ∧ Q (.bl true) H
theorem ok_is_whole_from (T : Txt w K mg A) : FnOk P w K mg base CX0 2 A.f_is_whole_from A.d_is_whole_from ["thing", "low", "high"] (sp_is_whole_from K A) := by
  refine T.F_is_whole_from.ok sc_is_whole_from (fun vs H Q E h => ?_) (fun cdv Ar outer s H vs Q E hr h => ?_)
  · obtain ⟨i, lo, hi, rfl, hlo, hhi, k⟩ := h
    rfl
  · obtain ⟨i, lo, hi, rfl, hlo, hhi, k⟩ := h
    have hu := hu_of hr
    have t_q_PART_NAMES := T.q_PART_NAMES
    have t_q_PART_WORDS_slot := T.q_PART_WORDS_slot
    have t_d_PART_WORDS_slot := T.d_PART_WORDS_slot
    have t_q_PART_WORDS_empty := T.q_PART_WORDS_empty
    have t_d_PART_WORDS_empty := T.d_PART_WORDS_empty
    have t_q_PART_WORDS_when := T.q_PART_WORDS_when
    have t_d_PART_WORDS_when := T.d_PART_WORDS_when
    have t_q_MEASURES := T.q_MEASURES
    have t_q_SIGNS := T.q_SIGNS
    have t_q_PLAIN_FULLS := T.q_PLAIN_FULLS
    have t_i_Form := T.i_Form
    have t_kt_Form_Form := T.kt_Form_Form
    have t_kt_int_Form := T.kt_int_Form
    have t_nf_Form_Form := T.nf_Form_Form
    have t_nf_int_Form := T.nf_int_Form
    have t_k_Form := T.k_Form
    have t_k_Scheme := T.k_Scheme
    refine ⟨_, (pss_one (ps_ret (pe_and (pe_call (ok_is_whole T) (hr.mono (by decide)) (by rfl) T.m_is_whole T.F_is_whole.kp T.b_is_whole .nil pass0 (pa_cons (pv 0) pa_nil)) (pe_one (pe_chain op_le op_le (pv 1) (pv 0) (pv 2)))))), ?_⟩
    try dsimp only [L2.cxOf, L2.Cx.nox, L2.Cx.wish]
    with_reducible refine Rd.ret (Rd.andV (Rd.call (Rd.cons (Rd.var (by walk_at "vr") (Rd.nil ?_)))))
    refine ⟨_, rfl, ?_⟩
    with_reducible refine Rd.bl (Rd.iteT (by walk_at "bT") (Rd.chain (Rd.var (by walk_at "vr") (Rd.var (by walk_at "vr") (Rd.i0 (Rd.bl (Rd.iteT (by walk_at "bT") (Rd.var (by walk_at "vr") (Rd.i0 ?_)))))))))
    rw [decide_eq_true hhi]
    exact k
/-! is_word_of -/
theorem sc_is_word_of : FnScope ["thing", "words"] ["thing", "words"] (defScope s_is_word_of) := ⟨rfl, rfl, rfl, by decide +kernel, rfl, by decide +kernel, by decide +kernel⟩
def sp_is_word_of (P : Program) (w : World) (mg : Str → Option Value) (base : Heap) (K : PySem.W.Frag) (A : Adr) : Sp := fun vs H Q E => vs.length = 2 ∧ ∀ (cdv : Value) (Ar : Around) (outer : List Env) (s : Shared), Room 0 (Ar.deeper (PyProof.Rows.envOfC "is_word_of" (defScope s_is_word_of) s.heap.objs.size A.f_is_word_of cdv)) → ∃ t, PSs (cxOf CX0 P w K mg base ["thing", "words"] "is_word_of" (defScope s_is_word_of) A.f_is_word_of cdv Ar outer s H E).nox (defBody s_is_word_of) t ∧ t { nx := fun _ H' => Q .non H', rt := Q } (start ["thing", "words"] vs) H
theorem in_is_word_of {vs : List V} {H : Hp} {Q : VK} {E : XK} (h : ∀ (cdv : Value) (Ar : Around) (outer : List Env) (s : Shared), Room 0 (Ar.deeper (PyProof.Rows.envOfC "is_word_of" (defScope s_is_word_of) s.heap.objs.size A.f_is_word_of cdv)) → ∃ t, PSs (cxOf CX0 P w K mg base ["thing", "words"] "is_word_of" (defScope s_is_word_of) A.f_is_word_of cdv Ar outer s H E).nox (defBody s_is_word_of) t ∧ t { nx := fun _ H' => Q .non H', rt := Q } (start ["thing", "words"] vs) H) (e : vs.length = 2) : sp_is_word_of P w mg base K A vs H Q E := ⟨e, h⟩
theorem ok_is_word_of (T : Txt w K mg A) : FnOk P w K mg base CX0 1 A.f_is_word_of A.d_is_word_of ["thing", "words"] (sp_is_word_of P w mg base K A) := T.F_is_word_of.ok sc_is_word_of (fun _ _ _ _ h => h.1) (fun cdv Ar outer s H vs Q E hr h => h.2 cdv Ar outer s hr)
/-! lesser -/
theorem sc_lesser : FnScope ["one", "other"] ["one", "other"] (defScope s_lesser) := ⟨rfl, rfl, rfl, by decide +kernel, rfl, by decide +kernel, by decide +kernel⟩
abbrev sp_lesser (K : PySem.W.Frag) (A : Adr) : Sp := fun vs H Q _ => ∃ a b : Int, vs = [.int a, .int b] ∧ Q (.int (if a < b then a else b)) H
theorem ok_lesser (T : Txt w K mg A) : FnOk P w K mg base CX0 1 A.f_lesser A.d_lesser ["one", "other"] (sp_lesser K A) := by
  refine T.F_lesser.ok sc_lesser (fun vs H Q E h => ?_) (fun cdv Ar outer s H vs Q E hr h => ?_)
  · obtain ⟨a, b, rfl, k⟩ := h
    rfl
  · obtain ⟨a, b, rfl, k⟩ := h
    have hu := hu_of hr
    have t_q_PART_NAMES := T.q_PART_NAMES
    have t_q_PART_WORDS_slot := T.q_PART_WORDS_slot
    have t_d_PART_WORDS_slot := T.d_PART_WORDS_slot
    have t_q_PART_WORDS_empty := T.q_PART_WORDS_empty
    have t_d_PART_WORDS_empty := T.d_PART_WORDS_empty
    have t_q_PART_WORDS_when := T.q_PART_WORDS_when
    have t_d_PART_WORDS_when := T.d_PART_WORDS_when
    have t_q_MEASURES := T.q_MEASURES
    have t_q_SIGNS := T.q_SIGNS
    have t_q_PLAIN_FULLS := T.q_PLAIN_FULLS
    have t_i_Form := T.i_Form
    have t_kt_Form_Form := T.kt_Form_Form
    have t_kt_int_Form := T.kt_int_Form
    have t_nf_Form_Form := T.nf_Form_Form
    have t_nf_int_Form := T.nf_int_Form
    have t_k_Form := T.k_Form
    have t_k_Scheme := T.k_Scheme
    rcases (by omega : a < b ∨ ¬ a < b) with h | h
    · skip
      refine ⟨_, (pss_one (ps_ret (pe_ifExp (pt_cmpR op_lt (pv 0) (pv 1) (nomark _)) (pv 0) Rd.peN))), ?_⟩
      try dsimp only [L2.cxOf, L2.Cx.nox, L2.Cx.wish]
      with_reducible refine Rd.ret (Rd.ifE (Rd.test (Rd.op (Rd.var (by walk_at "vr") (Rd.var (by walk_at "vr") (Rd.i0 (Rd.bl (Rd.iteT (by walk_at "bT") (Rd.var (by walk_at "vr") ?_)))))))))
      rw [if_pos h] at k
      exact k
    · skip
      refine ⟨_, (pss_one (ps_ret (pe_ifExp (pt_cmpR op_lt (pv 0) (pv 1) (nomark _)) Rd.peN (pv 1)))), ?_⟩
      try dsimp only [L2.cxOf, L2.Cx.nox, L2.Cx.wish]
      with_reducible refine Rd.ret (Rd.ifE (Rd.test (Rd.op (Rd.var (by walk_at "vr") (Rd.var (by walk_at "vr") (Rd.i0 (Rd.bl (Rd.iteF (by walk_at "bF") (Rd.var (by walk_at "vr") ?_)))))))))
      rw [if_neg h] at k
      exact k
/-! is_size -/
theorem sc_is_size : FnScope ["thing"] ["thing"] (defScope s_is_size) := ⟨rfl, rfl, rfl, by decide +kernel, rfl, by decide +kernel, by decide +kernel⟩
abbrev sp_is_size (K : PySem.W.Frag) (A : Adr) : Sp := fun vs H Q _ => ∃ i : Int, vs = [.int i] ∧ 1 ≤ i ∧ i ≤ 1000000000000000000000000000000 ∧ Q (.bl true) H
theorem ok_is_size (T : Txt w K mg A) : FnOk P w K mg base CX0 3 A.f_is_size A.d_is_size ["thing"] (sp_is_size K A) := by
  refine T.F_is_size.ok sc_is_size (fun vs H Q E h => ?_) (fun cdv Ar outer s H vs Q E hr h => ?_)
  · obtain ⟨i, rfl, hlo, hhi, k⟩ := h
    rfl
  · obtain ⟨i, rfl, hlo, hhi, k⟩ := h
    have hu := hu_of hr
    have t_q_PART_NAMES := T.q_PART_NAMES
    have t_q_PART_WORDS_slot := T.q_PART_WORDS_slot
    have t_d_PART_WORDS_slot := T.d_PART_WORDS_slot
    have t_q_PART_WORDS_empty := T.q_PART_WORDS_empty
    have t_d_PART_WORDS_empty := T.d_PART_WORDS_empty
    have t_q_PART_WORDS_when := T.q_PART_WORDS_when
    have t_d_PART_WORDS_when := T.d_PART_WORDS_when
    have t_q_MEASURES := T.q_MEASURES
    have t_q_SIGNS := T.q_SIGNS
    have t_q_PLAIN_FULLS := T.q_PLAIN_FULLS
    have t_i_Form := T.i_Form
    have t_kt_Form_Form := T.kt_Form_Form
    have t_kt_int_Form := T.kt_int_Form
    have t_nf_Form_Form := T.nf_Form_Form
    have t_nf_int_Form := T.nf_int_Form
    have t_k_Form := T.k_Form
    have t_k_Scheme := T.k_Scheme
    refine ⟨_, (pss_one (ps_ret (pe_call (ok_is_whole_from T) (hr.mono (by decide)) (by rfl) T.m_is_whole_from T.F_is_whole_from.kp T.b_is_whole_from .nil pass0 (pa_cons (pv 0) (pa_cons pe_int (pa_cons (pe_glob (v := .int (1000000000000000000000000000000)) rfl T.m_GREATEST_SIZE ⟨_, rfl⟩) pa_nil)))))), ?_⟩
    try dsimp only [L2.cxOf, L2.Cx.nox, L2.Cx.wish]
    with_reducible refine Rd.ret (Rd.call (Rd.cons (Rd.var (by walk_at "vr") (Rd.cons (Rd.c (Rd.cons (Rd.c (Rd.nil ?_))))))))
    refine ⟨_, _, _, rfl, (by walk_at "sc"), (by walk_at "sc"), ?_⟩
    exact k
/-! check_size -/
theorem sc_check_size : FnScope ["n"] ["n"] (defScope s_check_size) := ⟨rfl, rfl, rfl, by decide +kernel, rfl, by decide +kernel, by decide +kernel⟩
abbrev sp_check_size (K : PySem.W.Frag) (A : Adr) : Sp := fun vs H Q _ => ∃ i : Int, vs = [.int i] ∧ 1 ≤ i ∧ i ≤ 1000000000000000000000000000000 ∧ Q .non H
theorem ok_check_size (T : Txt w K mg A) : FnOk P w K mg base CX0 4 A.f_check_size A.d_check_size ["n"] (sp_check_size K A) := by
  refine T.F_check_size.ok sc_check_size (fun vs H Q E h => ?_) (fun cdv Ar outer s H vs Q E hr h => ?_)
  · obtain ⟨i, rfl, hlo, hhi, k⟩ := h
    rfl
  · obtain ⟨i, rfl, hlo, hhi, k⟩ := h
    have hu := hu_of hr
    have t_q_PART_NAMES := T.q_PART_NAMES
    have t_q_PART_WORDS_slot := T.q_PART_WORDS_slot
    have t_d_PART_WORDS_slot := T.d_PART_WORDS_slot
    have t_q_PART_WORDS_empty := T.q_PART_WORDS_empty
    have t_d_PART_WORDS_empty := T.d_PART_WORDS_empty
    have t_q_PART_WORDS_when := T.q_PART_WORDS_when
    have t_d_PART_WORDS_when := T.d_PART_WORDS_when
    have t_q_MEASURES := T.q_MEASURES
    have t_q_SIGNS := T.q_SIGNS
    have t_q_PLAIN_FULLS := T.q_PLAIN_FULLS
    have t_i_Form := T.i_Form
    have t_kt_Form_Form := T.kt_Form_Form
    have t_kt_int_Form := T.kt_int_Form
    have t_nf_Form_Form := T.nf_Form_Form
    have t_nf_int_Form := T.nf_int_Form
    have t_k_Form := T.k_Form
    have t_k_Scheme := T.k_Scheme
    refine ⟨_, (pss_one (ps_if (pt_not (pt_val (pe_call (ok_is_size T) (hr.mono (by decide)) (by rfl) T.m_is_size T.F_is_size.kp T.b_is_size .nil pass0 (pa_cons (pv 0) pa_nil)))) (pss_one ps_never) pss_nil)), ?_⟩
    try dsimp only [L2.cxOf, L2.Cx.nox, L2.Cx.wish]
    with_reducible refine Rd.ifS (Rd.not (Rd.tb (Rd.call (Rd.cons (Rd.var (by walk_at "vr") (Rd.nil ?_))))))
    refine ⟨_, rfl, (by walk_at "sc"), (by walk_at "sc"), ?_⟩
    with_reducible refine Rd.bl (Rd.iteF (by walk_at "bF") (Rd.next ?_))
    exact k
/-! Form.__init__ -/
theorem sc_Formu__initu_ : FnScope ["self", "slope", "base"] ["self", "slope", "base"] (defScope s_Formu__initu_) := ⟨rfl, rfl, rfl, by decide +kernel, rfl, by decide +kernel, by decide +kernel⟩
abbrev sp_Formu__initu_ (K : PySem.W.Frag) (A : Adr) : Sp := fun vs H Q _ => ∃ (p dx : Addr) (s b : Int), vs = [.ref p, .int s, .int b] ∧ H p = some (.ins A.c_Form dx []) ∧ Q .non (upd H p (.ins A.c_Form dx (fF s b)))
theorem ok_Formu__initu_ (T : Txt w K mg A) : FnOk P w K mg base CX0 2 A.f_Formu__initu_ A.d_Formu__initu_ ["self", "slope", "base"] (sp_Formu__initu_ K A) := by
  refine T.F_Formu__initu_.ok sc_Formu__initu_ (fun vs H Q E h => ?_) (fun cdv Ar outer s H vs Q E hr h => ?_)
  · obtain ⟨p, dx, s, b, rfl, hp, k⟩ := h
    rfl
  · obtain ⟨p, dx, s, b, rfl, hp, k⟩ := h
    have hu := hu_of hr
    have t_q_PART_NAMES := T.q_PART_NAMES
    have t_q_PART_WORDS_slot := T.q_PART_WORDS_slot
    have t_d_PART_WORDS_slot := T.d_PART_WORDS_slot
    have t_q_PART_WORDS_empty := T.q_PART_WORDS_empty
    have t_d_PART_WORDS_empty := T.d_PART_WORDS_empty
    have t_q_PART_WORDS_when := T.q_PART_WORDS_when
    have t_d_PART_WORDS_when := T.d_PART_WORDS_when
    have t_q_MEASURES := T.q_MEASURES
    have t_q_SIGNS := T.q_SIGNS
    have t_q_PLAIN_FULLS := T.q_PLAIN_FULLS
    have t_i_Form := T.i_Form
    have t_kt_Form_Form := T.kt_Form_Form
    have t_kt_int_Form := T.kt_int_Form
    have t_nf_Form_Form := T.nf_Form_Form
    have t_nf_int_Form := T.nf_int_Form
    have t_k_Form := T.k_Form
    have t_k_Scheme := T.k_Scheme
    refine ⟨_, (pss_cons (ps_if (PW.pt (pw_or (pt_not (pt_val (pe_call (ok_is_whole T) (hr.mono (by decide)) (by rfl) T.m_is_whole T.F_is_whole.kp T.b_is_whole .nil pass0 (pa_cons (pv 1) pa_nil)))) (pw_or1 (pt_not (pt_val (pe_call (ok_is_whole T) (hr.mono (by decide)) (by rfl) T.m_is_whole T.F_is_whole.kp T.b_is_whole .nil pass0 (pa_cons (pv 2) pa_nil))))))) (pss_one ps_never) pss_nil)
      (pss_cons (ps_fld (pv 0) (pv 1) rfl)
      (pss_one (ps_fld (pv 0) (pv 2) rfl)))), ?_⟩
    try dsimp only [L2.cxOf, L2.Cx.nox, L2.Cx.wish]
    with_reducible refine Rd.seq (Rd.ifS (Rd.or (Rd.not (Rd.tb (Rd.call (Rd.cons (Rd.var (by walk_at "vr") (Rd.nil ?_))))))))
    refine ⟨_, rfl, ?_⟩
    with_reducible refine Rd.bl (Rd.iteF (by walk_at "bF") (Rd.not (Rd.tb (Rd.call (Rd.cons (Rd.var (by walk_at "vr") (Rd.nil ?_)))))))
    refine ⟨_, rfl, ?_⟩
    with_reducible refine Rd.bl (Rd.iteF (by walk_at "bF") (Rd.next (Rd.seq (Rd.sfld (Rd.var (by walk_at "vr") (Rd.var (by walk_at "vr") (⟨_, _, _, _, rfl, (by walk_at "hp"), T.k_Form, T.n_Form_slope, (by walk_at "sfl"), (Rd.sfld (Rd.var (by walk_at "vr") (Rd.var (by walk_at "vr") (⟨_, _, _, _, rfl, (by walk_at "hp"), T.k_Form, T.n_Form_base, (by walk_at "sfl"), ?_⟩))))⟩)))))))
    rw [L2.upd_upd, fF_put]
    exact k
/-! form_at -/
theorem sc_form_at : FnScope ["form", "n"] ["form", "n"] (defScope s_form_at) := ⟨rfl, rfl, rfl, by decide +kernel, rfl, by decide +kernel, by decide +kernel⟩
abbrev sp_form_at (K : PySem.W.Frag) (A : Adr) : Sp := fun vs H Q _ => ∃ (p dx : Addr) (s b n : Int), vs = [.ref p, .int n] ∧ H p = some (.ins A.c_Form dx (fF s b)) ∧ (-(2 ^ 190) < s ∧ s < 2 ^ 190) ∧ (-(2 ^ 190) < n ∧ n < 2 ^ 190) ∧ Q (.int (s * n + b)) H
theorem ok_form_at (T : Txt w K mg A) : FnOk P w K mg base CX0 1 A.f_form_at A.d_form_at ["form", "n"] (sp_form_at K A) := by
  refine T.F_form_at.ok sc_form_at (fun vs H Q E h => ?_) (fun cdv Ar outer s H vs Q E hr h => ?_)
  · obtain ⟨p, dx, s, b, n, rfl, hp, hs, hn, k⟩ := h
    rfl
  · obtain ⟨p, dx, s, b, n, rfl, hp, hs, hn, k⟩ := h
    have hu := hu_of hr
    have t_q_PART_NAMES := T.q_PART_NAMES
    have t_q_PART_WORDS_slot := T.q_PART_WORDS_slot
    have t_d_PART_WORDS_slot := T.d_PART_WORDS_slot
    have t_q_PART_WORDS_empty := T.q_PART_WORDS_empty
    have t_d_PART_WORDS_empty := T.d_PART_WORDS_empty
    have t_q_PART_WORDS_when := T.q_PART_WORDS_when
    have t_d_PART_WORDS_when := T.d_PART_WORDS_when
    have t_q_MEASURES := T.q_MEASURES
    have t_q_SIGNS := T.q_SIGNS
    have t_q_PLAIN_FULLS := T.q_PLAIN_FULLS
    have t_i_Form := T.i_Form
    have t_kt_Form_Form := T.kt_Form_Form
    have t_kt_int_Form := T.kt_int_Form
    have t_nf_Form_Form := T.nf_Form_Form
    have t_nf_int_Form := T.nf_int_Form
    have t_k_Form := T.k_Form
    have t_k_Scheme := T.k_Scheme
    refine ⟨_, (pss_one (ps_ret (pe_op op_add (pe_op op_mulW (pe_fld (pv 0) rfl) (pv 1)) (pe_fld (pv 0) rfl)))), ?_⟩
    try dsimp only [L2.cxOf, L2.Cx.nox, L2.Cx.wish]
    with_reducible refine Rd.ret (Rd.op (Rd.op (Rd.fld (Rd.var (by walk_at "vr") (⟨_, _, _, _, _, rfl, (by walk_at "hp"), T.k_Form, T.n_Form_slope, (by walk_at "lk"), (Rd.var (by walk_at "vr") (Rd.iC (by walk_at "scm") (Rd.fld (Rd.var (by walk_at "vr") (⟨_, _, _, _, _, rfl, (by walk_at "hp"), T.k_Form, T.n_Form_base, (by walk_at "lk"), (Rd.i0 ?_)⟩)))))⟩)))))
    exact k
/-! Scheme.wrap -/
theorem sc_Scheme_wrap : FnScope ["self"] ["self"] (defScope s_Scheme_wrap) := ⟨rfl, rfl, rfl, by decide +kernel, rfl, by decide +kernel, by decide +kernel⟩
def sp_Scheme_wrap (P : Program) (w : World) (mg : Str → Option Value) (base : Heap) (K : PySem.W.Frag) (A : Adr) : Sp := fun vs H Q E => vs.length = 1 ∧ ∀ (cdv : Value) (Ar : Around) (outer : List Env) (s : Shared), Room 0 (Ar.deeper (PyProof.Rows.envOfC "Scheme.wrap" (defScope s_Scheme_wrap) s.heap.objs.size A.f_Scheme_wrap cdv)) → ∃ t, PSs (cxOf CX0 P w K mg base ["self"] "Scheme.wrap" (defScope s_Scheme_wrap) A.f_Scheme_wrap cdv Ar outer s H E).nox (defBody s_Scheme_wrap) t ∧ t { nx := fun _ H' => Q .non H', rt := Q } (start ["self"] vs) H
theorem in_Scheme_wrap {vs : List V} {H : Hp} {Q : VK} {E : XK} (h : ∀ (cdv : Value) (Ar : Around) (outer : List Env) (s : Shared), Room 0 (Ar.deeper (PyProof.Rows.envOfC "Scheme.wrap" (defScope s_Scheme_wrap) s.heap.objs.size A.f_Scheme_wrap cdv)) → ∃ t, PSs (cxOf CX0 P w K mg base ["self"] "Scheme.wrap" (defScope s_Scheme_wrap) A.f_Scheme_wrap cdv Ar outer s H E).nox (defBody s_Scheme_wrap) t ∧ t { nx := fun _ H' => Q .non H', rt := Q } (start ["self"] vs) H) (e : vs.length = 1) : sp_Scheme_wrap P w mg base K A vs H Q E := ⟨e, h⟩
theorem ok_Scheme_wrap (T : Txt w K mg A) : FnOk P w K mg base CX0 1 A.f_Scheme_wrap A.d_Scheme_wrap ["self"] (sp_Scheme_wrap P w mg base K A) := T.F_Scheme_wrap.ok sc_Scheme_wrap (fun _ _ _ _ h => h.1) (fun cdv Ar outer s H vs Q E hr h => h.2 cdv Ar outer s hr)
/-! wrap_at -/
theorem sc_wrap_at : FnScope ["wrap", "n"] ["wrap", "n"] (defScope s_wrap_at) := ⟨rfl, rfl, rfl, by decide +kernel, rfl, by decide +kernel, by decide +kernel⟩
abbrev sp_wrap_at (K : PySem.W.Frag) (A : Adr) : Sp := fun vs H Q _ => ∃ (v : V) (t : Wr) (n : Int), vs = [v, .int n] ∧ IsWrap A H v t ∧ WfW t ∧ 1 ≤ n ∧ n ≤ 1000000000000000000000000000000 ∧ Q (.int (modV t n)) H
theorem ok_wrap_at (T : Txt w K mg A) : FnOk P w K mg base CX0 2 A.f_wrap_at A.d_wrap_at ["wrap", "n"] (sp_wrap_at K A) := by
  refine T.F_wrap_at.ok sc_wrap_at (fun vs H Q E h => ?_) (fun cdv Ar outer s H vs Q E hr h => ?_)
  · obtain ⟨v, t, n, rfl, hw, hf, n1, n2, k⟩ := h
    rfl
  · obtain ⟨v, t, n, rfl, hw, hf, n1, n2, k⟩ := h
    have hu := hu_of hr
    have t_q_PART_NAMES := T.q_PART_NAMES
    have t_q_PART_WORDS_slot := T.q_PART_WORDS_slot
    have t_d_PART_WORDS_slot := T.d_PART_WORDS_slot
    have t_q_PART_WORDS_empty := T.q_PART_WORDS_empty
    have t_d_PART_WORDS_empty := T.d_PART_WORDS_empty
    have t_q_PART_WORDS_when := T.q_PART_WORDS_when
    have t_d_PART_WORDS_when := T.d_PART_WORDS_when
    have t_q_MEASURES := T.q_MEASURES
    have t_q_SIGNS := T.q_SIGNS
    have t_q_PLAIN_FULLS := T.q_PLAIN_FULLS
    have t_i_Form := T.i_Form
    have t_kt_Form_Form := T.kt_Form_Form
    have t_kt_int_Form := T.kt_int_Form
    have t_nf_Form_Form := T.nf_Form_Form
    have t_nf_int_Form := T.nf_int_Form
    have t_k_Form := T.k_Form
    have t_k_Scheme := T.k_Scheme
    rcases t with w | ⟨s, b⟩
    · have hw : v = .int w := hw
      subst hw
      have hf : 1 ≤ w ∧ w ≤ 100 := hf
      refine ⟨_, (pss_cons (ps_if (pt_val (pe_callB (Rd.isi (K := K) rfl) (by rfl) T.n_isinstance (by decide +kernel) (pa_cons (pv 0) (pa_cons (pe_glob (v := .ref A.c_Form) rfl T.m_Form rfl) pa_nil)))) (pss_one ps_never) pss_nil)
      (pss_one (ps_ret (pe_op op_shl pe_int (pv 0))))), ?_⟩
      try dsimp only [L2.cxOf, L2.Cx.nox, L2.Cx.wish]
      with_reducible refine Rd.seq (Rd.ifS (Rd.tb (Rd.cB (Rd.cons (Rd.var (by walk_at "vr") (Rd.cons (Rd.c (Rd.nil ?_))))))))
      refine ⟨_, _, _, _, _, rfl, (by walk_at "clsv"), (by walk_at "tyx"), (by walk_at "kit"), ?_⟩
      with_reducible refine Rd.bl (Rd.iteF (by first | with_unfolding_all rfl | walk_at "bF") (Rd.next (Rd.ret (Rd.op (Rd.c (Rd.var (by walk_at "vr") (Rd.iC (by walk_at "scp") ?_)))))))
      exact k
    · obtain ⟨p, dx, rfl, hp⟩ := hw
      have hf : 0 ≤ s ∧ s ≤ 4 ∧ -20 ≤ b ∧ b ≤ 20 := hf
      refine ⟨_, (pss_cons (ps_if (pt_val (pe_callB (Rd.isi (K := K) rfl) (by rfl) T.n_isinstance (by decide +kernel) (pa_cons (pv 0) (pa_cons (pe_glob (v := .ref A.c_Form) rfl T.m_Form rfl) pa_nil)))) (pss_one (ps_ret (pe_call (ok_form_at T) (hr.mono (by decide)) (by rfl) T.m_form_at T.F_form_at.kp T.b_form_at .nil pass0 (pa_cons (pv 0) (pa_cons (pv 1) pa_nil))))) pss_nil)
      (pss_one ps_never)), ?_⟩
      try dsimp only [L2.cxOf, L2.Cx.nox, L2.Cx.wish]
      with_reducible refine Rd.seq (Rd.ifS (Rd.tb (Rd.cB (Rd.cons (Rd.var (by walk_at "vr") (Rd.cons (Rd.c (Rd.nil ?_))))))))
      refine ⟨_, _, _, _, _, rfl, (by walk_at "clsv"), (by walk_at "tyx"), (by walk_at "kit"), ?_⟩
      with_reducible refine Rd.bl (Rd.iteT (by first | with_unfolding_all rfl | walk_at "bT") (Rd.ret (Rd.call (Rd.cons (Rd.var (by walk_at "vr") (Rd.cons (Rd.var (by walk_at "vr") (Rd.nil ?_))))))))
      refine ⟨_, _, _, _, _, rfl, (by walk_at "hp"), (by walk_at "sc"), (by walk_at "sc"), ?_⟩
      exact k
/-! modulus_of -/
theorem sc_modulus_of : FnScope ["scheme", "n", "modulus"] ["scheme", "n"] (defScope s_modulus_of) := ⟨rfl, rfl, rfl, by decide +kernel, rfl, by decide +kernel, by decide +kernel⟩
abbrev sp_modulus_of (K : PySem.W.Frag) (A : Adr) : Sp := fun vs H Q _ => ∃ (p : Addr) (t : Pt) (n : Int), vs = [.ref p, .int n] ∧ IsScheme A H p t ∧ WfW t.wrap ∧ 1 ≤ n ∧ n ≤ 1000000000000000000000000000000 ∧ 1 ≤ modV t.wrap n ∧ Q (.int (modV t.wrap n)) H
theorem ok_modulus_of (T : Txt w K mg A) : FnOk P w K mg base CX0 5 A.f_modulus_of A.d_modulus_of ["scheme", "n"] (sp_modulus_of K A) := by
  refine T.F_modulus_of.ok sc_modulus_of (fun vs H Q E h => ?_) (fun cdv Ar outer s H vs Q E hr h => ?_)
  · obtain ⟨p, t, n, rfl, ⟨dx, d, vw, vf, hp, hd, hw, hfl⟩, hf, n1, n2, hm, k⟩ := h
    rfl
  · obtain ⟨p, t, n, rfl, ⟨dx, d, vw, vf, hp, hd, hw, hfl⟩, hf, n1, n2, hm, k⟩ := h
    have hu := hu_of hr
    have t_q_PART_NAMES := T.q_PART_NAMES
    have t_q_PART_WORDS_slot := T.q_PART_WORDS_slot
    have t_d_PART_WORDS_slot := T.d_PART_WORDS_slot
    have t_q_PART_WORDS_empty := T.q_PART_WORDS_empty
    have t_d_PART_WORDS_empty := T.d_PART_WORDS_empty
    have t_q_PART_WORDS_when := T.q_PART_WORDS_when
    have t_d_PART_WORDS_when := T.d_PART_WORDS_when
    have t_q_MEASURES := T.q_MEASURES
    have t_q_SIGNS := T.q_SIGNS
    have t_q_PLAIN_FULLS := T.q_PLAIN_FULLS
    have t_i_Form := T.i_Form
    have t_kt_Form_Form := T.kt_Form_Form
    have t_kt_int_Form := T.kt_int_Form
    have t_nf_Form_Form := T.nf_Form_Form
    have t_nf_int_Form := T.nf_int_Form
    have t_k_Form := T.k_Form
    have t_k_Scheme := T.k_Scheme
    refine ⟨_, (pss_cons (ps_expr (pe_call (ok_check_size T) (hr.mono (by decide)) (by rfl) T.m_check_size T.F_check_size.kp T.b_check_size .nil pass0 (pa_cons (pv 1) pa_nil)))
      (pss_cons (ps_set (i := 2) sc_modulus_of.nd rfl (Or.inl rfl) (pe_call (ok_wrap_at T) (hr.mono (by decide)) (by rfl) T.m_wrap_at T.F_wrap_at.kp T.b_wrap_at .nil pass0 (pa_cons (pe_prop (pv 0) T.k_Scheme T.R_Scheme_wrap (ok_Scheme_wrap T) (hr.mono (by decide)) T.b_Scheme_wrap .nil pass0 rfl) (pa_cons (pv 1) pa_nil))))
      (pss_cons (ps_if (pt_cmpR op_lt (pv 2) pe_int (nomark _)) (pss_one ps_never) pss_nil)
      (pss_one (ps_ret (pv 2)))))), ?_⟩
    try dsimp only [L2.cxOf, L2.Cx.nox, L2.Cx.wish]
    with_reducible refine Rd.seq (Rd.drop (Rd.call (Rd.cons (Rd.var (by walk_at "vr") (Rd.nil ?_)))))
    refine ⟨_, rfl, (by walk_at "sc"), (by walk_at "sc"), ?_⟩
    with_reducible refine Rd.seq (Rd.asg (Rd.call (Rd.cons (Rd.prop (Rd.var (by walk_at "vr") (⟨_, _, _, rfl, (by walk_at "hp"), ?_⟩))))))
    refine in_Scheme_wrap (fun cdv Ar outer s hr => ?_) rfl
    have hu := hu_of hr
    refine ⟨_, (pss_one (ps_ret (pe_dget hu (pe_fld (pv 0) rfl) pe_str (fun _ _ => rfl)))), ?_⟩
    try dsimp only [L2.cxOf, L2.Cx.nox, L2.Cx.wish]
    with_reducible refine Rd.ret (Rd.dget (Rd.fld (Rd.var (by walk_at "vr") (⟨_, _, _, _, _, rfl, (by walk_at "hp"), T.k_Scheme, T.n_Scheme_parts, (by walk_at "lk"), (Rd.c ?_)⟩))))
    refine Rd.dget2 (by walk_at "hp") (by walk_at "dl") ?_
    with_reducible refine Rd.cons (Rd.var (by walk_at "vr") (Rd.nil ?_))
    refine ⟨_, _, _, rfl, (by assumption), (by assumption), (by walk_at "sc"), (by walk_at "sc"), ?_⟩
    with_reducible refine Rd.name (Rd.seq (Rd.ifS (Rd.test (Rd.op (Rd.var (by walk_at "vr") (Rd.c (Rd.i0 (Rd.bl (Rd.iteF (by walk_at "bF") (Rd.next (Rd.ret ?_)))))))))))
    with_reducible refine Rd.var (by walk_at "vr") ?_
    exact k
/-! Scheme.slot -/
theorem sc_Scheme_slot : FnScope ["self"] ["self"] (defScope s_Scheme_slot) := ⟨rfl, rfl, rfl, by decide +kernel, rfl, by decide +kernel, by decide +kernel⟩
def sp_Scheme_slot (P : Program) (w : World) (mg : Str → Option Value) (base : Heap) (K : PySem.W.Frag) (A : Adr) : Sp := fun vs H Q E => vs.length = 1 ∧ ∀ (cdv : Value) (Ar : Around) (outer : List Env) (s : Shared), Room 0 (Ar.deeper (PyProof.Rows.envOfC "Scheme.slot" (defScope s_Scheme_slot) s.heap.objs.size A.f_Scheme_slot cdv)) → ∃ t, PSs (cxOf CX0 P w K mg base ["self"] "Scheme.slot" (defScope s_Scheme_slot) A.f_Scheme_slot cdv Ar outer s H E).nox (defBody s_Scheme_slot) t ∧ t { nx := fun _ H' => Q .non H', rt := Q } (start ["self"] vs) H
theorem in_Scheme_slot {vs : List V} {H : Hp} {Q : VK} {E : XK} (h : ∀ (cdv : Value) (Ar : Around) (outer : List Env) (s : Shared), Room 0 (Ar.deeper (PyProof.Rows.envOfC "Scheme.slot" (defScope s_Scheme_slot) s.heap.objs.size A.f_Scheme_slot cdv)) → ∃ t, PSs (cxOf CX0 P w K mg base ["self"] "Scheme.slot" (defScope s_Scheme_slot) A.f_Scheme_slot cdv Ar outer s H E).nox (defBody s_Scheme_slot) t ∧ t { nx := fun _ H' => Q .non H', rt := Q } (start ["self"] vs) H) (e : vs.length = 1) : sp_Scheme_slot P w mg base K A vs H Q E := ⟨e, h⟩
theorem ok_Scheme_slot (T : Txt w K mg A) : FnOk P w K mg base CX0 1 A.f_Scheme_slot A.d_Scheme_slot ["self"] (sp_Scheme_slot P w mg base K A) := T.F_Scheme_slot.ok sc_Scheme_slot (fun _ _ _ _ h => h.1) (fun cdv Ar outer s H vs Q E hr h => h.2 cdv Ar outer s hr)
/-! window_at -/
theorem sc_window_at : FnScope ["kind", "n", "modulus", "left"] ["kind", "n", "modulus"] (defScope s_window_at) := ⟨rfl, rfl, rfl, by decide +kernel, rfl, by decide +kernel, by decide +kernel⟩
abbrev sp_window_at (K : PySem.W.Frag) (A : Adr) : Sp := fun vs H Q _ => ∃ (k : Str) (n M : Int), vs = [.str k, .int n, .int M] ∧ k ∈ wSlot ∧ 1 ≤ n ∧ n ≤ 100000000000000000000000000000000 ∧ 1 ≤ M ∧ M ≤ 100000000000000000000000000000000 ∧ ((Out k n M ∧ Q (.int 0) H) ∨ (¬ Out k n M ∧ Q (.int (winV k n M)) H))
theorem ok_window_at (T : Txt w K mg A) : FnOk P w K mg base CX0 2 A.f_window_at A.d_window_at ["kind", "n", "modulus"] (sp_window_at K A) := by
  refine T.F_window_at.ok sc_window_at (fun vs H Q E h => ?_) (fun cdv Ar outer s H vs Q E hr h => ?_)
  · obtain ⟨kd, n, M, rfl, hk, n1, n2, m1, m2, k⟩ := h
    rfl
  · obtain ⟨kd, n, M, rfl, hk, n1, n2, m1, m2, k⟩ := h
    have hu := hu_of hr
    have t_q_PART_NAMES := T.q_PART_NAMES
    have t_q_PART_WORDS_slot := T.q_PART_WORDS_slot
    have t_d_PART_WORDS_slot := T.d_PART_WORDS_slot
    have t_q_PART_WORDS_empty := T.q_PART_WORDS_empty
    have t_d_PART_WORDS_empty := T.d_PART_WORDS_empty
    have t_q_PART_WORDS_when := T.q_PART_WORDS_when
    have t_d_PART_WORDS_when := T.d_PART_WORDS_when
    have t_q_MEASURES := T.q_MEASURES
    have t_q_SIGNS := T.q_SIGNS
    have t_q_PLAIN_FULLS := T.q_PLAIN_FULLS
    have t_i_Form := T.i_Form
    have t_kt_Form_Form := T.kt_Form_Form
    have t_kt_int_Form := T.kt_int_Form
    have t_nf_Form_Form := T.nf_Form_Form
    have t_nf_int_Form := T.nf_int_Form
    have t_k_Form := T.k_Form
    have t_k_Scheme := T.k_Scheme
    have e1 := Int.emod_nonneg M (show n ≠ 0 by omega)
    have e2 := Int.emod_lt_of_pos M (show 0 < n by omega)
    rcases (by omega : M ≤ n ∨ (¬ M ≤ n ∧ M % n = 0) ∨ (¬ M ≤ n ∧ ¬ M % n = 0)) with h | ⟨h, g⟩ | ⟨h, g⟩ <;> rcases slot3 hk with rfl | rfl | rfl <;> rcases k with ⟨o, k⟩ | ⟨o, k⟩ <;> try (first | exact absurd o.1 (by decide +kernel) | (exfalso; have q := o.2; omega))
    · skip
      refine ⟨_, (pss_cons (ps_if (pt_cmpR op_eq (pv 0) pe_str (nomark _)) (pss_one ps_never) pss_nil)
      (pss_cons (ps_if (pt_val (pe_call (ok_has_outside T) (hr.mono (by decide)) (by rfl) T.m_has_outside T.F_has_outside.kp T.b_has_outside .nil pass0 (pa_cons (pv 0) (pa_cons (pv 1) (pa_cons (pv 2) pa_nil))))) (pss_one ps_never) pss_nil)
      (pss_cons (ps_if (pt_cmpR op_le (pv 2) (pv 1) (nomark _)) (pss_one (ps_ret (pv 2))) pss_nil)
      (pss_cons ps_never (pss_one ps_never))))), ?_⟩
      try dsimp only [L2.cxOf, L2.Cx.nox, L2.Cx.wish]
      with_reducible refine Rd.seq (Rd.ifS (Rd.test (Rd.op (Rd.var (by walk_at "vr") (Rd.c (Rd.eqS (by walk_at "vr") (Rd.bl (Rd.iteF (by first | with_unfolding_all rfl | walk_at "bF") (Rd.next (Rd.seq (Rd.ifS ?_)))))))))))
      with_reducible refine Rd.tb (Rd.call (Rd.cons (Rd.var (by walk_at "vr") (Rd.cons (Rd.var (by walk_at "vr") (Rd.cons (Rd.var (by walk_at "vr") (Rd.nil ?_))))))))
      refine ⟨_, _, _, rfl, (by walk_at "sc"), (by walk_at "sc"), ?_⟩
      with_reducible refine Rd.bl (Rd.iteF (by walk_at "bF") (Rd.next (Rd.seq (Rd.ifS (Rd.test (Rd.op (Rd.var (by walk_at "vr") (Rd.var (by walk_at "vr") (Rd.i0 (Rd.bl (Rd.iteT (by walk_at "bT") ?_)))))))))))
      with_reducible refine Rd.ret (Rd.var (by walk_at "vr") ?_)
      rw [win_rest _ _ rest_nm, if_pos h] at k
      exact k
    · skip
      refine ⟨_, (pss_cons (ps_if (pt_cmpR op_eq (pv 0) pe_str (nomark _)) (pss_one (ps_ret (pe_call (ok_lesser T) (hr.mono (by decide)) (by rfl) T.m_lesser T.F_lesser.kp T.b_lesser .nil pass0 (pa_cons (pe_call (ok_lowest_bit T) (hr.mono (by decide)) (by rfl) T.m_lowest_bit T.F_lowest_bit.kp T.b_lowest_bit .nil pass0 (pa_cons (pv 1) pa_nil)) (pa_cons (pv 2) pa_nil))))) pss_nil)
      (pss_cons ps_never (pss_cons ps_never (pss_cons ps_never (pss_one ps_never))))), ?_⟩
      try dsimp only [L2.cxOf, L2.Cx.nox, L2.Cx.wish]
      with_reducible refine Rd.seq (Rd.ifS (Rd.test (Rd.op (Rd.var (by walk_at "vr") (Rd.c (Rd.eqS (by walk_at "vr") (Rd.bl (Rd.iteT (by first | with_unfolding_all rfl | walk_at "bT") (Rd.ret (Rd.call (Rd.cons ?_)))))))))))
      with_reducible refine Rd.call (Rd.cons (Rd.var (by walk_at "vr") (Rd.nil ?_)))
      refine in_lowest_bit (fun cdv Ar outer s hr => ?_) rfl
      have hu := hu_of hr
      refine ⟨_, (pss_one (ps_ret (pe_op op_and (pv 0) (pe_un un_neg (pv 0))))), ?_⟩
      try dsimp only [L2.cxOf, L2.Cx.nox, L2.Cx.wish]
      with_reducible refine Rd.ret (Rd.op (Rd.var (by walk_at "vr") (Rd.un (Rd.var (by walk_at "vr") (Rd.iU (Rd.i0 (Rd.cons (Rd.var (by walk_at "vr") (Rd.nil ?_)))))))))
      refine ⟨_, _, rfl, ?_⟩
      rw [winV_mask] at k
      exact k
    · skip
      refine ⟨_, (pss_cons (ps_if (pt_cmpR op_eq (pv 0) pe_str (nomark _)) (pss_one ps_never) pss_nil)
      (pss_cons (ps_if (pt_val (pe_call (ok_has_outside T) (hr.mono (by decide)) (by rfl) T.m_has_outside T.F_has_outside.kp T.b_has_outside .nil pass0 (pa_cons (pv 0) (pa_cons (pv 1) (pa_cons (pv 2) pa_nil))))) (pss_one ps_never) pss_nil)
      (pss_cons (ps_if (pt_cmpR op_le (pv 2) (pv 1) (nomark _)) (pss_one (ps_ret (pv 2))) pss_nil)
      (pss_cons ps_never (pss_one ps_never))))), ?_⟩
      try dsimp only [L2.cxOf, L2.Cx.nox, L2.Cx.wish]
      with_reducible refine Rd.seq (Rd.ifS (Rd.test (Rd.op (Rd.var (by walk_at "vr") (Rd.c (Rd.eqS (by walk_at "vr") (Rd.bl (Rd.iteF (by first | with_unfolding_all rfl | walk_at "bF") (Rd.next (Rd.seq (Rd.ifS ?_)))))))))))
      with_reducible refine Rd.tb (Rd.call (Rd.cons (Rd.var (by walk_at "vr") (Rd.cons (Rd.var (by walk_at "vr") (Rd.cons (Rd.var (by walk_at "vr") (Rd.nil ?_))))))))
      refine ⟨_, _, _, rfl, (by walk_at "sc"), (by walk_at "sc"), ?_⟩
      with_reducible refine Rd.bl (Rd.iteF (by walk_at "bF") (Rd.next (Rd.seq (Rd.ifS (Rd.test (Rd.op (Rd.var (by walk_at "vr") (Rd.var (by walk_at "vr") (Rd.i0 (Rd.bl (Rd.iteT (by walk_at "bT") ?_)))))))))))
      with_reducible refine Rd.ret (Rd.var (by walk_at "vr") ?_)
      rw [win_rest _ _ off_nm, if_pos h] at k
      exact k
    · skip
      refine ⟨_, (pss_cons (ps_if (pt_cmpR op_eq (pv 0) pe_str (nomark _)) (pss_one ps_never) pss_nil)
      (pss_cons (ps_if (pt_val (pe_call (ok_has_outside T) (hr.mono (by decide)) (by rfl) T.m_has_outside T.F_has_outside.kp T.b_has_outside .nil pass0 (pa_cons (pv 0) (pa_cons (pv 1) (pa_cons (pv 2) pa_nil))))) (pss_one ps_never) pss_nil)
      (pss_cons (ps_if (pt_cmpR op_le (pv 2) (pv 1) (nomark _)) (pss_one ps_never) pss_nil)
      (pss_cons (ps_set (i := 3) sc_window_at.nd rfl (Or.inl rfl) (pe_op op_mod (pv 2) (pv 1)))
      (pss_one (ps_ret (pe_ifExp (pt_cmpR op_eq (pv 3) pe_int (nomark _)) (pv 1) Rd.peN))))))), ?_⟩
      try dsimp only [L2.cxOf, L2.Cx.nox, L2.Cx.wish]
      with_reducible refine Rd.seq (Rd.ifS (Rd.test (Rd.op (Rd.var (by walk_at "vr") (Rd.c (Rd.eqS (by walk_at "vr") (Rd.bl (Rd.iteF (by first | with_unfolding_all rfl | walk_at "bF") (Rd.next (Rd.seq (Rd.ifS ?_)))))))))))
      with_reducible refine Rd.tb (Rd.call (Rd.cons (Rd.var (by walk_at "vr") (Rd.cons (Rd.var (by walk_at "vr") (Rd.cons (Rd.var (by walk_at "vr") (Rd.nil ?_))))))))
      refine ⟨_, _, _, rfl, (by walk_at "sc"), (by walk_at "sc"), ?_⟩
      with_reducible refine Rd.bl (Rd.iteF (by walk_at "bF") (Rd.next (Rd.seq (Rd.ifS (Rd.test (Rd.op (Rd.var (by walk_at "vr") (Rd.var (by walk_at "vr") (Rd.i0 (Rd.bl (Rd.iteF (by walk_at "bF") ?_)))))))))))
      with_reducible refine Rd.next (Rd.seq (Rd.asg (Rd.op (Rd.var (by walk_at "vr") (Rd.var (by walk_at "vr") (Rd.iC (by walk_at "sc") (Rd.name (Rd.ret (Rd.ifE (Rd.test (Rd.op ?_)))))))))))
      with_reducible refine Rd.var (by walk_at "vr") (Rd.c (Rd.eqS (by walk_at "vr") (Rd.bl (Rd.iteT (by walk_at "bT") (Rd.var (by walk_at "vr") ?_)))))
      rw [win_rest _ _ rest_nm, if_neg h, if_pos g] at k
      exact k
    · skip
      refine ⟨_, (pss_cons (ps_if (pt_cmpR op_eq (pv 0) pe_str (nomark _)) (pss_one (ps_ret (pe_call (ok_lesser T) (hr.mono (by decide)) (by rfl) T.m_lesser T.F_lesser.kp T.b_lesser .nil pass0 (pa_cons (pe_call (ok_lowest_bit T) (hr.mono (by decide)) (by rfl) T.m_lowest_bit T.F_lowest_bit.kp T.b_lowest_bit .nil pass0 (pa_cons (pv 1) pa_nil)) (pa_cons (pv 2) pa_nil))))) pss_nil)
      (pss_cons ps_never (pss_cons ps_never (pss_cons ps_never (pss_one ps_never))))), ?_⟩
      try dsimp only [L2.cxOf, L2.Cx.nox, L2.Cx.wish]
      with_reducible refine Rd.seq (Rd.ifS (Rd.test (Rd.op (Rd.var (by walk_at "vr") (Rd.c (Rd.eqS (by walk_at "vr") (Rd.bl (Rd.iteT (by first | with_unfolding_all rfl | walk_at "bT") (Rd.ret (Rd.call (Rd.cons ?_)))))))))))
      with_reducible refine Rd.call (Rd.cons (Rd.var (by walk_at "vr") (Rd.nil ?_)))
      refine in_lowest_bit (fun cdv Ar outer s hr => ?_) rfl
      have hu := hu_of hr
      refine ⟨_, (pss_one (ps_ret (pe_op op_and (pv 0) (pe_un un_neg (pv 0))))), ?_⟩
      try dsimp only [L2.cxOf, L2.Cx.nox, L2.Cx.wish]
      with_reducible refine Rd.ret (Rd.op (Rd.var (by walk_at "vr") (Rd.un (Rd.var (by walk_at "vr") (Rd.iU (Rd.i0 (Rd.cons (Rd.var (by walk_at "vr") (Rd.nil ?_)))))))))
      refine ⟨_, _, rfl, ?_⟩
      rw [winV_mask] at k
      exact k
    · skip
      refine ⟨_, (pss_cons (ps_if (pt_cmpR op_eq (pv 0) pe_str (nomark _)) (pss_one ps_never) pss_nil)
      (pss_cons (ps_if (pt_val (pe_call (ok_has_outside T) (hr.mono (by decide)) (by rfl) T.m_has_outside T.F_has_outside.kp T.b_has_outside .nil pass0 (pa_cons (pv 0) (pa_cons (pv 1) (pa_cons (pv 2) pa_nil))))) (pss_one (ps_ret pe_int)) pss_nil)
      (pss_cons ps_never (pss_cons ps_never (pss_one ps_never))))), ?_⟩
      try dsimp only [L2.cxOf, L2.Cx.nox, L2.Cx.wish]
      with_reducible refine Rd.seq (Rd.ifS (Rd.test (Rd.op (Rd.var (by walk_at "vr") (Rd.c (Rd.eqS (by walk_at "vr") (Rd.bl (Rd.iteF (by first | with_unfolding_all rfl | walk_at "bF") (Rd.next (Rd.seq (Rd.ifS ?_)))))))))))
      with_reducible refine Rd.tb (Rd.call (Rd.cons (Rd.var (by walk_at "vr") (Rd.cons (Rd.var (by walk_at "vr") (Rd.cons (Rd.var (by walk_at "vr") (Rd.nil ?_))))))))
      refine ⟨_, _, _, rfl, (by walk_at "sc"), (by walk_at "sc"), ?_⟩
      with_reducible refine Rd.bl (Rd.iteT (by walk_at "bT") (Rd.ret (Rd.c ?_)))
      exact k
    · skip
      refine ⟨_, (pss_cons (ps_if (pt_cmpR op_eq (pv 0) pe_str (nomark _)) (pss_one ps_never) pss_nil)
      (pss_cons (ps_if (pt_val (pe_call (ok_has_outside T) (hr.mono (by decide)) (by rfl) T.m_has_outside T.F_has_outside.kp T.b_has_outside .nil pass0 (pa_cons (pv 0) (pa_cons (pv 1) (pa_cons (pv 2) pa_nil))))) (pss_one ps_never) pss_nil)
      (pss_cons (ps_if (pt_cmpR op_le (pv 2) (pv 1) (nomark _)) (pss_one ps_never) pss_nil)
      (pss_cons (ps_set (i := 3) sc_window_at.nd rfl (Or.inl rfl) (pe_op op_mod (pv 2) (pv 1)))
      (pss_one (ps_ret (pe_ifExp (pt_cmpR op_eq (pv 3) pe_int (nomark _)) (pv 1) Rd.peN))))))), ?_⟩
      try dsimp only [L2.cxOf, L2.Cx.nox, L2.Cx.wish]
      with_reducible refine Rd.seq (Rd.ifS (Rd.test (Rd.op (Rd.var (by walk_at "vr") (Rd.c (Rd.eqS (by walk_at "vr") (Rd.bl (Rd.iteF (by first | with_unfolding_all rfl | walk_at "bF") (Rd.next (Rd.seq (Rd.ifS ?_)))))))))))
      with_reducible refine Rd.tb (Rd.call (Rd.cons (Rd.var (by walk_at "vr") (Rd.cons (Rd.var (by walk_at "vr") (Rd.cons (Rd.var (by walk_at "vr") (Rd.nil ?_))))))))
      refine ⟨_, _, _, rfl, (by walk_at "sc"), (by walk_at "sc"), ?_⟩
      with_reducible refine Rd.bl (Rd.iteF (by walk_at "bF") (Rd.next (Rd.seq (Rd.ifS (Rd.test (Rd.op (Rd.var (by walk_at "vr") (Rd.var (by walk_at "vr") (Rd.i0 (Rd.bl (Rd.iteF (by walk_at "bF") ?_)))))))))))
      with_reducible refine Rd.next (Rd.seq (Rd.asg (Rd.op (Rd.var (by walk_at "vr") (Rd.var (by walk_at "vr") (Rd.iC (by walk_at "sc") (Rd.name (Rd.ret (Rd.ifE (Rd.test (Rd.op ?_)))))))))))
      with_reducible refine Rd.var (by walk_at "vr") (Rd.c (Rd.eqS (by walk_at "vr") (Rd.bl (Rd.iteT (by walk_at "bT") (Rd.var (by walk_at "vr") ?_)))))
      rw [win_rest _ _ off_nm, if_neg h, if_pos g] at k
      exact k
    · skip
      refine ⟨_, (pss_cons (ps_if (pt_cmpR op_eq (pv 0) pe_str (nomark _)) (pss_one ps_never) pss_nil)
      (pss_cons (ps_if (pt_val (pe_call (ok_has_outside T) (hr.mono (by decide)) (by rfl) T.m_has_outside T.F_has_outside.kp T.b_has_outside .nil pass0 (pa_cons (pv 0) (pa_cons (pv 1) (pa_cons (pv 2) pa_nil))))) (pss_one ps_never) pss_nil)
      (pss_cons (ps_if (pt_cmpR op_le (pv 2) (pv 1) (nomark _)) (pss_one ps_never) pss_nil)
      (pss_cons (ps_set (i := 3) sc_window_at.nd rfl (Or.inl rfl) (pe_op op_mod (pv 2) (pv 1)))
      (pss_one (ps_ret (pe_ifExp (pt_cmpR op_eq (pv 3) pe_int (nomark _)) Rd.peN (pv 3)))))))), ?_⟩
      try dsimp only [L2.cxOf, L2.Cx.nox, L2.Cx.wish]
      with_reducible refine Rd.seq (Rd.ifS (Rd.test (Rd.op (Rd.var (by walk_at "vr") (Rd.c (Rd.eqS (by walk_at "vr") (Rd.bl (Rd.iteF (by first | with_unfolding_all rfl | walk_at "bF") (Rd.next (Rd.seq (Rd.ifS ?_)))))))))))
      with_reducible refine Rd.tb (Rd.call (Rd.cons (Rd.var (by walk_at "vr") (Rd.cons (Rd.var (by walk_at "vr") (Rd.cons (Rd.var (by walk_at "vr") (Rd.nil ?_))))))))
      refine ⟨_, _, _, rfl, (by walk_at "sc"), (by walk_at "sc"), ?_⟩
      with_reducible refine Rd.bl (Rd.iteF (by walk_at "bF") (Rd.next (Rd.seq (Rd.ifS (Rd.test (Rd.op (Rd.var (by walk_at "vr") (Rd.var (by walk_at "vr") (Rd.i0 (Rd.bl (Rd.iteF (by walk_at "bF") ?_)))))))))))
      with_reducible refine Rd.next (Rd.seq (Rd.asg (Rd.op (Rd.var (by walk_at "vr") (Rd.var (by walk_at "vr") (Rd.iC (by walk_at "sc") (Rd.name (Rd.ret (Rd.ifE (Rd.test (Rd.op ?_)))))))))))
      with_reducible refine Rd.var (by walk_at "vr") (Rd.c (Rd.eqS (by walk_at "vr") (Rd.bl (Rd.iteF (by walk_at "bF") (Rd.var (by walk_at "vr") ?_)))))
      rw [win_rest _ _ rest_nm, if_neg h, if_neg g] at k
      exact k
    · skip
      refine ⟨_, (pss_cons (ps_if (pt_cmpR op_eq (pv 0) pe_str (nomark _)) (pss_one (ps_ret (pe_call (ok_lesser T) (hr.mono (by decide)) (by rfl) T.m_lesser T.F_lesser.kp T.b_lesser .nil pass0 (pa_cons (pe_call (ok_lowest_bit T) (hr.mono (by decide)) (by rfl) T.m_lowest_bit T.F_lowest_bit.kp T.b_lowest_bit .nil pass0 (pa_cons (pv 1) pa_nil)) (pa_cons (pv 2) pa_nil))))) pss_nil)
      (pss_cons ps_never (pss_cons ps_never (pss_cons ps_never (pss_one ps_never))))), ?_⟩
      try dsimp only [L2.cxOf, L2.Cx.nox, L2.Cx.wish]
      with_reducible refine Rd.seq (Rd.ifS (Rd.test (Rd.op (Rd.var (by walk_at "vr") (Rd.c (Rd.eqS (by walk_at "vr") (Rd.bl (Rd.iteT (by first | with_unfolding_all rfl | walk_at "bT") (Rd.ret (Rd.call (Rd.cons ?_)))))))))))
      with_reducible refine Rd.call (Rd.cons (Rd.var (by walk_at "vr") (Rd.nil ?_)))
      refine in_lowest_bit (fun cdv Ar outer s hr => ?_) rfl
      have hu := hu_of hr
      refine ⟨_, (pss_one (ps_ret (pe_op op_and (pv 0) (pe_un un_neg (pv 0))))), ?_⟩
      try dsimp only [L2.cxOf, L2.Cx.nox, L2.Cx.wish]
      with_reducible refine Rd.ret (Rd.op (Rd.var (by walk_at "vr") (Rd.un (Rd.var (by walk_at "vr") (Rd.iU (Rd.i0 (Rd.cons (Rd.var (by walk_at "vr") (Rd.nil ?_)))))))))
      refine ⟨_, _, rfl, ?_⟩
      rw [winV_mask] at k
      exact k
    · skip
      refine ⟨_, (pss_cons (ps_if (pt_cmpR op_eq (pv 0) pe_str (nomark _)) (pss_one ps_never) pss_nil)
      (pss_cons (ps_if (pt_val (pe_call (ok_has_outside T) (hr.mono (by decide)) (by rfl) T.m_has_outside T.F_has_outside.kp T.b_has_outside .nil pass0 (pa_cons (pv 0) (pa_cons (pv 1) (pa_cons (pv 2) pa_nil))))) (pss_one (ps_ret pe_int)) pss_nil)
      (pss_cons ps_never (pss_cons ps_never (pss_one ps_never))))), ?_⟩
      try dsimp only [L2.cxOf, L2.Cx.nox, L2.Cx.wish]
      with_reducible refine Rd.seq (Rd.ifS (Rd.test (Rd.op (Rd.var (by walk_at "vr") (Rd.c (Rd.eqS (by walk_at "vr") (Rd.bl (Rd.iteF (by first | with_unfolding_all rfl | walk_at "bF") (Rd.next (Rd.seq (Rd.ifS ?_)))))))))))
      with_reducible refine Rd.tb (Rd.call (Rd.cons (Rd.var (by walk_at "vr") (Rd.cons (Rd.var (by walk_at "vr") (Rd.cons (Rd.var (by walk_at "vr") (Rd.nil ?_))))))))
      refine ⟨_, _, _, rfl, (by walk_at "sc"), (by walk_at "sc"), ?_⟩
      with_reducible refine Rd.bl (Rd.iteT (by walk_at "bT") (Rd.ret (Rd.c ?_)))
      exact k
    · skip
      refine ⟨_, (pss_cons (ps_if (pt_cmpR op_eq (pv 0) pe_str (nomark _)) (pss_one ps_never) pss_nil)
      (pss_cons (ps_if (pt_val (pe_call (ok_has_outside T) (hr.mono (by decide)) (by rfl) T.m_has_outside T.F_has_outside.kp T.b_has_outside .nil pass0 (pa_cons (pv 0) (pa_cons (pv 1) (pa_cons (pv 2) pa_nil))))) (pss_one ps_never) pss_nil)
      (pss_cons (ps_if (pt_cmpR op_le (pv 2) (pv 1) (nomark _)) (pss_one ps_never) pss_nil)
      (pss_cons (ps_set (i := 3) sc_window_at.nd rfl (Or.inl rfl) (pe_op op_mod (pv 2) (pv 1)))
      (pss_one (ps_ret (pe_ifExp (pt_cmpR op_eq (pv 3) pe_int (nomark _)) Rd.peN (pv 3)))))))), ?_⟩
      try dsimp only [L2.cxOf, L2.Cx.nox, L2.Cx.wish]
      with_reducible refine Rd.seq (Rd.ifS (Rd.test (Rd.op (Rd.var (by walk_at "vr") (Rd.c (Rd.eqS (by walk_at "vr") (Rd.bl (Rd.iteF (by first | with_unfolding_all rfl | walk_at "bF") (Rd.next (Rd.seq (Rd.ifS ?_)))))))))))
      with_reducible refine Rd.tb (Rd.call (Rd.cons (Rd.var (by walk_at "vr") (Rd.cons (Rd.var (by walk_at "vr") (Rd.cons (Rd.var (by walk_at "vr") (Rd.nil ?_))))))))
      refine ⟨_, _, _, rfl, (by walk_at "sc"), (by walk_at "sc"), ?_⟩
      with_reducible refine Rd.bl (Rd.iteF (by walk_at "bF") (Rd.next (Rd.seq (Rd.ifS (Rd.test (Rd.op (Rd.var (by walk_at "vr") (Rd.var (by walk_at "vr") (Rd.i0 (Rd.bl (Rd.iteF (by walk_at "bF") ?_)))))))))))
      with_reducible refine Rd.next (Rd.seq (Rd.asg (Rd.op (Rd.var (by walk_at "vr") (Rd.var (by walk_at "vr") (Rd.iC (by walk_at "sc") (Rd.name (Rd.ret (Rd.ifE (Rd.test (Rd.op ?_)))))))))))
      with_reducible refine Rd.var (by walk_at "vr") (Rd.c (Rd.eqS (by walk_at "vr") (Rd.bl (Rd.iteF (by walk_at "bF") (Rd.var (by walk_at "vr") ?_)))))
      rw [win_rest _ _ off_nm, if_neg h, if_neg g] at k
      exact k
/-! window_of -/
theorem sc_window_of : FnScope ["scheme", "n"] ["scheme", "n"] (defScope s_window_of) := ⟨rfl, rfl, rfl, by decide +kernel, rfl, by decide +kernel, by decide +kernel⟩
abbrev sp_window_of (K : PySem.W.Frag) (A : Adr) : Sp := fun vs H Q _ => ∃ (p : Addr) (t : Pt) (n : Int), vs = [.ref p, .int n] ∧ IsScheme A H p t ∧ Wf t ∧ 1 ≤ n ∧ n ≤ 1000000000000000000000000000000 ∧ 1 ≤ modV t.wrap n ∧ ((Out t.slot n (modV t.wrap n) ∧ Q (.int 0) H) ∨ (¬ Out t.slot n (modV t.wrap n) ∧ Q (.int (winV t.slot n (modV t.wrap n))) H))
theorem ok_window_of (T : Txt w K mg A) : FnOk P w K mg base CX0 6 A.f_window_of A.d_window_of ["scheme", "n"] (sp_window_of K A) := by
  refine T.F_window_of.ok sc_window_of (fun vs H Q E h => ?_) (fun cdv Ar outer s H vs Q E hr h => ?_)
  · obtain ⟨p, t, n, rfl, hsch, wf, n1, n2, m1, k⟩ := h
    rfl
  · obtain ⟨p, t, n, rfl, hsch, wf, n1, n2, m1, k⟩ := h
    have hu := hu_of hr
    have t_q_PART_NAMES := T.q_PART_NAMES
    have t_q_PART_WORDS_slot := T.q_PART_WORDS_slot
    have t_d_PART_WORDS_slot := T.d_PART_WORDS_slot
    have t_q_PART_WORDS_empty := T.q_PART_WORDS_empty
    have t_d_PART_WORDS_empty := T.d_PART_WORDS_empty
    have t_q_PART_WORDS_when := T.q_PART_WORDS_when
    have t_d_PART_WORDS_when := T.d_PART_WORDS_when
    have t_q_MEASURES := T.q_MEASURES
    have t_q_SIGNS := T.q_SIGNS
    have t_q_PLAIN_FULLS := T.q_PLAIN_FULLS
    have t_i_Form := T.i_Form
    have t_kt_Form_Form := T.kt_Form_Form
    have t_kt_int_Form := T.kt_int_Form
    have t_nf_Form_Form := T.nf_Form_Form
    have t_nf_int_Form := T.nf_int_Form
    have t_k_Form := T.k_Form
    have t_k_Scheme := T.k_Scheme
    have m2 := modV_le wf.w n1 n2
    have wfw := wf.w
    have wfs := wf.s
    have hsch2 := hsch
    obtain ⟨dx, d, vw, vf, hp, hd, hw, hfl⟩ := hsch
    rcases k with ⟨o, k⟩ | ⟨o, k⟩
    · skip
      refine ⟨_, (pss_one (ps_ret (pe_call (ok_window_at T) (hr.mono (by decide)) (by rfl) T.m_window_at T.F_window_at.kp T.b_window_at .nil pass0 (pa_cons (pe_prop (pv 0) T.k_Scheme T.R_Scheme_slot (ok_Scheme_slot T) (hr.mono (by decide)) T.b_Scheme_slot .nil pass0 rfl) (pa_cons (pv 1) (pa_cons (pe_call (ok_modulus_of T) (hr.mono (by decide)) (by rfl) T.m_modulus_of T.F_modulus_of.kp T.b_modulus_of .nil pass0 (pa_cons (pv 0) (pa_cons (pv 1) pa_nil))) pa_nil)))))), ?_⟩
      try dsimp only [L2.cxOf, L2.Cx.nox, L2.Cx.wish]
      with_reducible refine Rd.ret (Rd.call (Rd.cons (Rd.prop (Rd.var (by walk_at "vr") (⟨_, _, _, rfl, (by walk_at "hp"), ?_⟩)))))
      refine in_Scheme_slot (fun cdv Ar outer s hr => ?_) rfl
      have hu := hu_of hr
      refine ⟨_, (pss_one (ps_ret (pe_dget hu (pe_fld (pv 0) rfl) pe_str (fun _ _ => rfl)))), ?_⟩
      try dsimp only [L2.cxOf, L2.Cx.nox, L2.Cx.wish]
      with_reducible refine Rd.ret (Rd.dget (Rd.fld (Rd.var (by walk_at "vr") (⟨_, _, _, _, _, rfl, (by walk_at "hp"), T.k_Scheme, T.n_Scheme_parts, (by walk_at "lk"), (Rd.c ?_)⟩))))
      refine Rd.dget2 (by walk_at "hp") (by walk_at "dl") ?_
      with_reducible refine Rd.cons (Rd.var (by walk_at "vr") (Rd.cons (Rd.call (Rd.cons (Rd.var (by walk_at "vr") (Rd.cons (Rd.var (by walk_at "vr") (Rd.nil ?_))))))))
      refine ⟨_, _, _, rfl, (by assumption), (by assumption), (by walk_at "sc"), (by walk_at "sc"), (by assumption), ?_⟩
      with_reducible refine Rd.nil ?_
      refine ⟨_, _, _, rfl, (by assumption), (by walk_at "sc"), (by walk_at "sc"), (by walk_at "sc"), (by walk_at "sc"), .inl ⟨o, ?_⟩⟩
      exact k
    · skip
      refine ⟨_, (pss_one (ps_ret (pe_call (ok_window_at T) (hr.mono (by decide)) (by rfl) T.m_window_at T.F_window_at.kp T.b_window_at .nil pass0 (pa_cons (pe_prop (pv 0) T.k_Scheme T.R_Scheme_slot (ok_Scheme_slot T) (hr.mono (by decide)) T.b_Scheme_slot .nil pass0 rfl) (pa_cons (pv 1) (pa_cons (pe_call (ok_modulus_of T) (hr.mono (by decide)) (by rfl) T.m_modulus_of T.F_modulus_of.kp T.b_modulus_of .nil pass0 (pa_cons (pv 0) (pa_cons (pv 1) pa_nil))) pa_nil)))))), ?_⟩
      try dsimp only [L2.cxOf, L2.Cx.nox, L2.Cx.wish]
      with_reducible refine Rd.ret (Rd.call (Rd.cons (Rd.prop (Rd.var (by walk_at "vr") (⟨_, _, _, rfl, (by walk_at "hp"), ?_⟩)))))
      refine in_Scheme_slot (fun cdv Ar outer s hr => ?_) rfl
      have hu := hu_of hr
      refine ⟨_, (pss_one (ps_ret (pe_dget hu (pe_fld (pv 0) rfl) pe_str (fun _ _ => rfl)))), ?_⟩
      try dsimp only [L2.cxOf, L2.Cx.nox, L2.Cx.wish]
      with_reducible refine Rd.ret (Rd.dget (Rd.fld (Rd.var (by walk_at "vr") (⟨_, _, _, _, _, rfl, (by walk_at "hp"), T.k_Scheme, T.n_Scheme_parts, (by walk_at "lk"), (Rd.c ?_)⟩))))
      refine Rd.dget2 (by walk_at "hp") (by walk_at "dl") ?_
      with_reducible refine Rd.cons (Rd.var (by walk_at "vr") (Rd.cons (Rd.call (Rd.cons (Rd.var (by walk_at "vr") (Rd.cons (Rd.var (by walk_at "vr") (Rd.nil ?_))))))))
      refine ⟨_, _, _, rfl, (by assumption), (by assumption), (by walk_at "sc"), (by walk_at "sc"), (by assumption), ?_⟩
      with_reducible refine Rd.nil ?_
      refine ⟨_, _, _, rfl, (by assumption), (by walk_at "sc"), (by walk_at "sc"), (by walk_at "sc"), (by walk_at "sc"), .inr ⟨o, ?_⟩⟩
      exact k
/-! alike_of -/
theorem sc_alike_of : FnScope ["scheme", "n", "modulus", "gaps", "least", "_", "gap", "c"] ["scheme", "n"] (defScope s_alike_of) := ⟨rfl, rfl, rfl, by decide +kernel, rfl, by decide +kernel, by decide +kernel⟩
abbrev sp_alike_of (K : PySem.W.Frag) (A : Adr) : Sp := fun vs H Q _ => ∃ (p : Addr) (t : Pt) (n : Int), vs = [.ref p, .int n] ∧ IsScheme A H p t ∧ Wf t ∧ 1 ≤ n ∧ n ≤ 1000000000000000000000000000000 ∧ 1 ≤ modV t.wrap n ∧ ((Out t.slot n (modV t.wrap n) ∧ ∀ H', Same H H' → Q .non H') ∨ (¬ Out t.slot n (modV t.wrap n) ∧ ∀ (q : Addr) (c g : Int) (H' : Hp), Same H H' → H' q = some (.tup [.int c, .int g]) → (∃ x ∈ gapsM t.slot n (modV t.wrap n) 0, x.1 = c ∧ x.2 = g) → (∀ x ∈ gapsM t.slot n (modV t.wrap n) 0, g ≤ x.2) → (∀ x ∈ gapsM t.slot n (modV t.wrap n) 0, x.2 = g → c ≤ x.1) → Q (.ref q) H'))
theorem ok_alike_of (T : Txt w K mg A) : FnOk P w K mg base CX0 6 A.f_alike_of A.d_alike_of ["scheme", "n"] (sp_alike_of K A) := by
  refine T.F_alike_of.ok sc_alike_of (fun vs H Q E h => ?_) (fun cdv Ar outer s H vs Q E hr h => ?_)
  · obtain ⟨p, t, n, rfl, hsch, wf, n1, n2, m1, k⟩ := h
    rfl
  · obtain ⟨p, t, n, rfl, hsch, wf, n1, n2, m1, k⟩ := h
    have hu := hu_of hr
    have t_q_PART_NAMES := T.q_PART_NAMES
    have t_q_PART_WORDS_slot := T.q_PART_WORDS_slot
    have t_d_PART_WORDS_slot := T.d_PART_WORDS_slot
    have t_q_PART_WORDS_empty := T.q_PART_WORDS_empty
    have t_d_PART_WORDS_empty := T.d_PART_WORDS_empty
    have t_q_PART_WORDS_when := T.q_PART_WORDS_when
    have t_d_PART_WORDS_when := T.d_PART_WORDS_when
    have t_q_MEASURES := T.q_MEASURES
    have t_q_SIGNS := T.q_SIGNS
    have t_q_PLAIN_FULLS := T.q_PLAIN_FULLS
    have t_i_Form := T.i_Form
    have t_kt_Form_Form := T.kt_Form_Form
    have t_kt_int_Form := T.kt_int_Form
    have t_nf_Form_Form := T.nf_Form_Form
    have t_nf_int_Form := T.nf_int_Form
    have t_k_Form := T.k_Form
    have t_k_Scheme := T.k_Scheme
    have m2 := modV_le wf.w n1 n2
    have wfw := wf.w
    have wfs := wf.s
    have hsch2 := hsch
    obtain ⟨dx, d, vw, vf, hp, hd, hw, hfl⟩ := hsch
    rcases k with ⟨o, k⟩ | ⟨o, k⟩
    · skip
      refine ⟨_, (pss_cons (ps_set (i := 2) sc_alike_of.nd rfl (Or.inl rfl) (pe_call (ok_modulus_of T) (hr.mono (by decide)) (by rfl) T.m_modulus_of T.F_modulus_of.kp T.b_modulus_of .nil pass0 (pa_cons (pv 0) (pa_cons (pv 1) pa_nil))))
      (pss_cons (ps_if (pt_val (pe_call (ok_has_outside T) (hr.mono (by decide)) (by rfl) T.m_has_outside T.F_has_outside.kp T.b_has_outside .nil pass0 (pa_cons (pe_prop (pv 0) T.k_Scheme T.R_Scheme_slot (ok_Scheme_slot T) (hr.mono (by decide)) T.b_Scheme_slot .nil pass0 rfl) (pa_cons (pv 1) (pa_cons (pv 2) pa_nil))))) (pss_one (ps_ret pe_non)) pss_nil)
      (pss_cons ps_never (pss_cons ps_never (pss_one ps_never))))), ?_⟩
      try dsimp only [L2.cxOf, L2.Cx.nox, L2.Cx.wish]
      with_reducible refine Rd.seq (Rd.asg (Rd.call (Rd.cons (Rd.var (by walk_at "vr") (Rd.cons (Rd.var (by walk_at "vr") (Rd.nil ?_)))))))
      refine ⟨_, _, _, rfl, (by assumption), (by assumption), (by walk_at "sc"), (by walk_at "sc"), (by assumption), ?_⟩
      with_reducible refine Rd.name (Rd.seq (Rd.ifS (Rd.tb (Rd.call (Rd.cons (Rd.prop (Rd.var (by walk_at "vr") (⟨_, _, _, rfl, (by walk_at "hp"), ?_⟩))))))))
      refine in_Scheme_slot (fun cdv Ar outer s hr => ?_) rfl
      have hu := hu_of hr
      refine ⟨_, (pss_one (ps_ret (pe_dget hu (pe_fld (pv 0) rfl) pe_str (fun _ _ => rfl)))), ?_⟩
      try dsimp only [L2.cxOf, L2.Cx.nox, L2.Cx.wish]
      with_reducible refine Rd.ret (Rd.dget (Rd.fld (Rd.var (by walk_at "vr") (⟨_, _, _, _, _, rfl, (by walk_at "hp"), T.k_Scheme, T.n_Scheme_parts, (by walk_at "lk"), (Rd.c ?_)⟩))))
      refine Rd.dget2 (by walk_at "hp") (by walk_at "dl") ?_
      with_reducible refine Rd.cons (Rd.var (by walk_at "vr") (Rd.cons (Rd.var (by walk_at "vr") (Rd.nil ?_))))
      refine ⟨_, _, _, rfl, (by walk_at "sc"), (by walk_at "sc"), ?_⟩
      with_reducible refine Rd.bl (Rd.iteT (by walk_at "bT") (Rd.ret (Rd.c ?_)))
      exact k _ (by walk_at "frm")
    · obtain ⟨fi, le⟩ := firsts_ok wf n1 m1 o
      refine ⟨_, (pss_cons (ps_set (i := 2) sc_alike_of.nd rfl (Or.inl rfl) (pe_call (ok_modulus_of T) (hr.mono (by decide)) (by rfl) T.m_modulus_of T.F_modulus_of.kp T.b_modulus_of .nil pass0 (pa_cons (pv 0) (pa_cons (pv 1) pa_nil))))
      (pss_cons (ps_if (pt_val (pe_call (ok_has_outside T) (hr.mono (by decide)) (by rfl) T.m_has_outside T.F_has_outside.kp T.b_has_outside .nil pass0 (pa_cons (pe_prop (pv 0) T.k_Scheme T.R_Scheme_slot (ok_Scheme_slot T) (hr.mono (by decide)) T.b_Scheme_slot .nil pass0 rfl) (pa_cons (pv 1) (pa_cons (pv 2) pa_nil))))) (pss_one ps_never) pss_nil)
      (pss_cons (ps_set (i := 3) sc_alike_of.nd rfl (Or.inl rfl) (pe_call (ok_gaps_from T) (hr.mono (by decide)) (by rfl) T.m_gaps_from T.F_gaps_from.kp T.b_gaps_from .nil pass0 (pa_cons (pe_prop (pv 0) T.k_Scheme T.R_Scheme_slot (ok_Scheme_slot T) (hr.mono (by decide)) T.b_Scheme_slot .nil pass0 rfl) (pa_cons (pv 1) (pa_cons (pv 2) (pa_cons pe_int pa_nil))))))
      (pss_cons (ps_set (i := 4) sc_alike_of.nd rfl (Or.inr rfl) (pe_callB (cr_min rfl) (by rfl) T.n_min (by decide +kernel) (pa_cons (pe_lc (own := [("_", 5), ("gap", 6)]) (g := gTup K 2 (gCons (gName 5) (gCons (gName 6) gNil))) rfl sc_alike_of.nd (pi_list (pv 3)) (blkOk_by (own := [("_", 5), ("gap", 6)]) (N := ["scheme", "n", "modulus", "gaps", "least", "_", "gap", "c"]) (sc := defScope s_alike_of) (by decide +kernel)) (fun _ _ _ _ _ => pg_tup (by rfl) (pgs_cons (pg_name (i := 5) sc_alike_of.nd rfl (Or.inl rfl)) (pgs_cons (pg_name (i := 6) sc_alike_of.nd rfl (Or.inl rfl)) pgs_nil))) (fun _ _ _ _ _ => pts_nil) (fun _ _ _ _ _ => (pe_callTy call_int1 (by rfl) T.n_int (by decide +kernel) (pa_cons (pv 6) pa_nil)))) pa_nil)))
      (pss_one (ps_ret (pe_tup (pa_cons (pe_callB (cr_min rfl) (by rfl) T.n_min (by decide +kernel) (pa_cons (pe_lc (own := [("c", 7), ("gap", 6)]) (g := gTup K 2 (gCons (gName 7) (gCons (gName 6) gNil))) rfl sc_alike_of.nd (pi_list (pv 3)) (blkOk_by (own := [("c", 7), ("gap", 6)]) (N := ["scheme", "n", "modulus", "gaps", "least", "_", "gap", "c"]) (sc := defScope s_alike_of) (by decide +kernel)) (fun _ _ _ _ _ => pg_tup (by rfl) (pgs_cons (pg_name (i := 7) sc_alike_of.nd rfl (Or.inl rfl)) (pgs_cons (pg_name (i := 6) sc_alike_of.nd rfl (Or.inl rfl)) pgs_nil))) (fun _ _ _ _ _ => pts_one (pt_cmpR op_eq (pv 6) (pv 4) (nomark _))) (fun _ _ _ _ _ => (pe_callTy call_int1 (by rfl) T.n_int (by decide +kernel) (pa_cons (pv 7) pa_nil)))) pa_nil)) (pa_cons (pv 4) pa_nil))))))))), ?_⟩
      try dsimp only [L2.cxOf, L2.Cx.nox, L2.Cx.wish]
      with_reducible refine Rd.seq (Rd.asg (Rd.call (Rd.cons (Rd.var (by walk_at "vr") (Rd.cons (Rd.var (by walk_at "vr") (Rd.nil ?_)))))))
      refine ⟨_, _, _, rfl, (by assumption), (by assumption), (by walk_at "sc"), (by walk_at "sc"), (by assumption), ?_⟩
      with_reducible refine Rd.name (Rd.seq (Rd.ifS (Rd.tb (Rd.call (Rd.cons (Rd.prop (Rd.var (by walk_at "vr") (⟨_, _, _, rfl, (by walk_at "hp"), ?_⟩))))))))
      refine in_Scheme_slot (fun cdv Ar outer s hr => ?_) rfl
      have hu := hu_of hr
      refine ⟨_, (pss_one (ps_ret (pe_dget hu (pe_fld (pv 0) rfl) pe_str (fun _ _ => rfl)))), ?_⟩
      try dsimp only [L2.cxOf, L2.Cx.nox, L2.Cx.wish]
      with_reducible refine Rd.ret (Rd.dget (Rd.fld (Rd.var (by walk_at "vr") (⟨_, _, _, _, _, rfl, (by walk_at "hp"), T.k_Scheme, T.n_Scheme_parts, (by walk_at "lk"), (Rd.c ?_)⟩))))
      refine Rd.dget2 (by walk_at "hp") (by walk_at "dl") ?_
      with_reducible refine Rd.cons (Rd.var (by walk_at "vr") (Rd.cons (Rd.var (by walk_at "vr") (Rd.nil ?_))))
      refine ⟨_, _, _, rfl, (by walk_at "sc"), (by walk_at "sc"), ?_⟩
      with_reducible refine Rd.bl (Rd.iteF (by walk_at "bF") (Rd.next (Rd.seq (Rd.asg (Rd.call (Rd.cons (Rd.prop (Rd.var (by walk_at "vr") (⟨_, _, _, rfl, (by walk_at "hp"), ?_⟩)))))))))
      refine in_Scheme_slot (fun cdv Ar outer s hr => ?_) rfl
      have hu := hu_of hr
      refine ⟨_, (pss_one (ps_ret (pe_dget hu (pe_fld (pv 0) rfl) pe_str (fun _ _ => rfl)))), ?_⟩
      try dsimp only [L2.cxOf, L2.Cx.nox, L2.Cx.wish]
      with_reducible refine Rd.ret (Rd.dget (Rd.fld (Rd.var (by walk_at "vr") (⟨_, _, _, _, _, rfl, (by walk_at "hp"), T.k_Scheme, T.n_Scheme_parts, (by walk_at "lk"), (Rd.c ?_)⟩))))
      refine Rd.dget2 (by walk_at "hp") (by walk_at "dl") ?_
      with_reducible refine Rd.cons (Rd.var (by walk_at "vr") (Rd.cons (Rd.var (by walk_at "vr") (Rd.cons (Rd.c (Rd.nil ?_))))))
      refine ⟨_, _, _, _, rfl, wfs, (by walk_at "sc"), (by walk_at "sc"), (by walk_at "sc"), (by walk_at "sc"), (by walk_at "sc"), (by walk_at "sc"), mask_pow wf, fun l3 ws3 H3 S3 nl3 hl3 hg3 => ?_⟩
      with_reducible refine Rd.name (Rd.seq (Rd.asg (Rd.cB (Rd.cons (Rd.lc (Rd.il (Rd.var (by walk_at "vr") ?_)))))))
      refine ⟨_, rfl, ⟨_, (by walk_at "hpl")⟩, ?_⟩
      intro D0 nD0
      refine' lc_list (fun i H' => Same H3 H' ∧ H' D0 = some (.lst ((((gapsM t.slot n (modV t.wrap n) 0).take i).map (fun x : Int × Int => x.2)).map V.int))) (⟨by walk_at "frm", L2.upd_same⟩) (fun i H' _ p => .of (p.1 _ _ hl3)) (fun i x H' hx p => ?lct0_u16) (fun H' p => ?lcd0_u16)
      case lct0_u16 =>
        obtain ⟨S0, hD⟩ := p
        obtain ⟨pt, ⟨st, gp⟩, hti, rfl, hpt⟩ := hg3.at hx
        have hpt0 := S0 _ _ hpt
        have D0ne : D0 ≠ pt := L2.ne_of hD hpt0 (by intro z; cases z)
        have gl := len_ok (t := t) (n := n) (c := 0) wf
        have al : ((((gapsM t.slot n (modV t.wrap n) 0).take i).map (fun x : Int × Int => x.2)).map V.int).length ≤ 900 := by
          rw [List.length_map]
          rw [List.length_map, List.length_take]
          omega
        refine Rd.gtup (by walk_at "hpt") rfl ?_
        with_reducible refine Rd.gcons (Rd.name (Rd.gcons (Rd.name (Rd.gnil ?_))))
        refine ⟨rfl, ?_⟩
        refine Rd.yes (Rd.iteT rfl ?_)
        with_reducible refine Rd.cB (Rd.cons (Rd.var (by walk_at "vr") (Rd.nil ((.inl ⟨_, rfl, ?_⟩)))))
        refine ⟨_, (by walk_at "hp"), (by walk_at "sz"), ?_⟩
        refine ⟨by walk_at "frm", ?_⟩
        rw [List.take_add_one, hti, List.map_append, List.map_append]
        exact L2.upd_same
      obtain ⟨S8, hD8⟩ := p
      rw [hg3.len, List.take_length] at hD8
      with_reducible refine Rd.nil ?_
      refine ⟨_, _, rfl, .of hD8, (by obtain ⟨x, hx, _⟩ := le.a; exact List.length_pos_of_mem (List.mem_map.mpr ⟨x, hx, rfl⟩)), fun gmin mg lg => ?_⟩
      with_reducible refine Rd.name (Rd.ret (Rd.tup (Rd.cons (Rd.cB (Rd.cons (Rd.lc (Rd.il (Rd.var (by walk_at "vr") ?_))))))))
      refine ⟨_, rfl, ⟨_, (by walk_at "hpl")⟩, ?_⟩
      intro D2 nD2
      refine' lc_list (fun i H' => Same H3 H' ∧ H' D2 = some (.lst ((fsts gmin ((gapsM t.slot n (modV t.wrap n) 0).take i)).map V.int))) (⟨by walk_at "frm", L2.upd_same⟩) (fun i H' _ p => .of (p.1 _ _ hl3)) (fun i x H' hx p => ?lct2_u17) (fun H' p => ?lcd2_u17)
      case lct2_u17 =>
        obtain ⟨S0, hD⟩ := p
        obtain ⟨pt, ⟨st, gp⟩, hti, rfl, hpt⟩ := hg3.at hx
        have hpt0 := S0 _ _ hpt
        have D0ne : D2 ≠ pt := L2.ne_of hD hpt0 (by intro z; cases z)
        have gl := len_ok (t := t) (n := n) (c := 0) wf
        have al : ((fsts gmin ((gapsM t.slot n (modV t.wrap n) 0).take i)).map V.int).length ≤ 900 := by
          rw [List.length_map]
          have z := fsts_len gmin ((gapsM t.slot n (modV t.wrap n) 0).take i)
          rw [List.length_take] at z
          omega
        refine Rd.gtup (by walk_at "hpt") rfl ?_
        with_reducible refine Rd.gcons (Rd.name (Rd.gcons (Rd.name (Rd.gnil ?_))))
        refine ⟨rfl, ?_⟩
        with_reducible refine Rd.test (Rd.op (Rd.var (by walk_at "vr") (Rd.var (by walk_at "vr") (Rd.eqS (by walk_at "vr") (Rd.bl ?_)))))
        refine Rd.ite (fun h1 => ?_) (fun h1 => ?_)
        · try simp only [decide_eq_true_eq, Bool.not_eq_true', decide_eq_false_iff_not, Bool.not_eq_true, Bool.not_eq_eq_eq_not, Bool.not_true, Bool.not_false] at h1
          with_reducible refine Rd.cB (Rd.cons (Rd.var (by walk_at "vr") (Rd.nil ((.inl ⟨_, rfl, ?_⟩)))))
          refine ⟨_, (by walk_at "hp"), (by walk_at "sz"), ?_⟩
          refine ⟨by walk_at "frm", ?_⟩
          rw [fsts_in hti (by simpa using h1), List.map_append]
          exact L2.upd_same
        · try simp only [decide_eq_true_eq, Bool.not_eq_true', decide_eq_false_iff_not, Bool.not_eq_true, Bool.not_eq_eq_eq_not, Bool.not_true, Bool.not_false, Int.not_lt, Int.not_le, Decidable.not_not] at h1
          refine ⟨by walk_at "frm", ?_⟩
          rw [fsts_out hti (by simpa using h1)]
          exact hD
      obtain ⟨S9, hD9⟩ := p
      rw [hg3.len, List.take_length] at hD9
      with_reducible refine Rd.nil ?_
      refine ⟨_, _, rfl, .of hD9, (by obtain ⟨x, hx, e⟩ := List.mem_map.mp mg; exact List.length_pos_of_mem (fsts_mem.mpr ⟨x, hx, e, rfl⟩)), fun cmin mc lc => ?_⟩
      with_reducible refine Rd.cons (Rd.var (by walk_at "vr") (Rd.nil (Rd.laid (by walk_at "ll") ?_)))
      intro p1 np1
      obtain ⟨x, hx, e1, e2⟩ := fsts_mem.mp mc
      exact k _ _ _ _ (by walk_at "frm") (by walk_at "hp") ⟨x, hx, e2, e1⟩ (fun y hy => lg _ (List.mem_map.mpr ⟨y, hy, rfl⟩)) (fun y hy e => lc _ (fsts_mem.mpr ⟨y, hy, e, rfl⟩))
/-! is_small_form -/
theorem sc_is_small_form : FnScope ["thing"] ["thing"] (defScope s_is_small_form) := ⟨rfl, rfl, rfl, by decide +kernel, rfl, by decide +kernel, by decide +kernel⟩
def sp_is_small_form (P : Program) (w : World) (mg : Str → Option Value) (base : Heap) (K : PySem.W.Frag) (A : Adr) : Sp := fun vs H Q E => vs.length = 1 ∧ ∀ (cdv : Value) (Ar : Around) (outer : List Env) (s : Shared), Room 0 (Ar.deeper (PyProof.Rows.envOfC "is_small_form" (defScope s_is_small_form) s.heap.objs.size A.f_is_small_form cdv)) → ∃ t, PSs (cxOf CX0 P w K mg base ["thing"] "is_small_form" (defScope s_is_small_form) A.f_is_small_form cdv Ar outer s H E).nox (defBody s_is_small_form) t ∧ t { nx := fun _ H' => Q .non H', rt := Q } (start ["thing"] vs) H
theorem in_is_small_form {vs : List V} {H : Hp} {Q : VK} {E : XK} (h : ∀ (cdv : Value) (Ar : Around) (outer : List Env) (s : Shared), Room 0 (Ar.deeper (PyProof.Rows.envOfC "is_small_form" (defScope s_is_small_form) s.heap.objs.size A.f_is_small_form cdv)) → ∃ t, PSs (cxOf CX0 P w K mg base ["thing"] "is_small_form" (defScope s_is_small_form) A.f_is_small_form cdv Ar outer s H E).nox (defBody s_is_small_form) t ∧ t { nx := fun _ H' => Q .non H', rt := Q } (start ["thing"] vs) H) (e : vs.length = 1) : sp_is_small_form P w mg base K A vs H Q E := ⟨e, h⟩
theorem ok_is_small_form (T : Txt w K mg A) : FnOk P w K mg base CX0 1 A.f_is_small_form A.d_is_small_form ["thing"] (sp_is_small_form P w mg base K A) := T.F_is_small_form.ok sc_is_small_form (fun _ _ _ _ h => h.1) (fun cdv Ar outer s H vs Q E hr h => h.2 cdv Ar outer s hr)
/-! is_full -/
theorem sc_is_full : FnScope ["thing"] ["thing"] (defScope s_is_full) := ⟨rfl, rfl, rfl, by decide +kernel, rfl, by decide +kernel, by decide +kernel⟩
def sp_is_full (P : Program) (w : World) (mg : Str → Option Value) (base : Heap) (K : PySem.W.Frag) (A : Adr) : Sp := fun vs H Q E => vs.length = 1 ∧ ∀ (cdv : Value) (Ar : Around) (outer : List Env) (s : Shared), Room 1 (Ar.deeper (PyProof.Rows.envOfC "is_full" (defScope s_is_full) s.heap.objs.size A.f_is_full cdv)) → ∃ t, PSs (cxOf CX0 P w K mg base ["thing"] "is_full" (defScope s_is_full) A.f_is_full cdv Ar outer s H E).nox (defBody s_is_full) t ∧ t { nx := fun _ H' => Q .non H', rt := Q } (start ["thing"] vs) H
theorem in_is_full {vs : List V} {H : Hp} {Q : VK} {E : XK} (h : ∀ (cdv : Value) (Ar : Around) (outer : List Env) (s : Shared), Room 1 (Ar.deeper (PyProof.Rows.envOfC "is_full" (defScope s_is_full) s.heap.objs.size A.f_is_full cdv)) → ∃ t, PSs (cxOf CX0 P w K mg base ["thing"] "is_full" (defScope s_is_full) A.f_is_full cdv Ar outer s H E).nox (defBody s_is_full) t ∧ t { nx := fun _ H' => Q .non H', rt := Q } (start ["thing"] vs) H) (e : vs.length = 1) : sp_is_full P w mg base K A vs H Q E := ⟨e, h⟩
theorem ok_is_full (T : Txt w K mg A) : FnOk P w K mg base CX0 2 A.f_is_full A.d_is_full ["thing"] (sp_is_full P w mg base K A) := T.F_is_full.ok sc_is_full (fun _ _ _ _ h => h.1) (fun cdv Ar outer s H vs Q E hr h => h.2 cdv Ar outer s hr)
/-! is_wrap -/
theorem sc_is_wrap : FnScope ["thing"] ["thing"] (defScope s_is_wrap) := ⟨rfl, rfl, rfl, by decide +kernel, rfl, by decide +kernel, by decide +kernel⟩
def sp_is_wrap (P : Program) (w : World) (mg : Str → Option Value) (base : Heap) (K : PySem.W.Frag) (A : Adr) : Sp := fun vs H Q E => vs.length = 1 ∧ ∀ (cdv : Value) (Ar : Around) (outer : List Env) (s : Shared), Room 2 (Ar.deeper (PyProof.Rows.envOfC "is_wrap" (defScope s_is_wrap) s.heap.objs.size A.f_is_wrap cdv)) → ∃ t, PSs (cxOf CX0 P w K mg base ["thing"] "is_wrap" (defScope s_is_wrap) A.f_is_wrap cdv Ar outer s H E).nox (defBody s_is_wrap) t ∧ t { nx := fun _ H' => Q .non H', rt := Q } (start ["thing"] vs) H
theorem in_is_wrap {vs : List V} {H : Hp} {Q : VK} {E : XK} (h : ∀ (cdv : Value) (Ar : Around) (outer : List Env) (s : Shared), Room 2 (Ar.deeper (PyProof.Rows.envOfC "is_wrap" (defScope s_is_wrap) s.heap.objs.size A.f_is_wrap cdv)) → ∃ t, PSs (cxOf CX0 P w K mg base ["thing"] "is_wrap" (defScope s_is_wrap) A.f_is_wrap cdv Ar outer s H E).nox (defBody s_is_wrap) t ∧ t { nx := fun _ H' => Q .non H', rt := Q } (start ["thing"] vs) H) (e : vs.length = 1) : sp_is_wrap P w mg base K A vs H Q E := ⟨e, h⟩
theorem ok_is_wrap (T : Txt w K mg A) : FnOk P w K mg base CX0 3 A.f_is_wrap A.d_is_wrap ["thing"] (sp_is_wrap P w mg base K A) := T.F_is_wrap.ok sc_is_wrap (fun _ _ _ _ h => h.1) (fun cdv Ar outer s H vs Q E hr h => h.2 cdv Ar outer s hr)
/-! is_part -/
theorem sc_is_part : FnScope ["part", "thing"] ["part", "thing"] (defScope s_is_part) := ⟨rfl, rfl, rfl, by decide +kernel, rfl, by decide +kernel, by decide +kernel⟩
def sp_is_part (P : Program) (w : World) (mg : Str → Option Value) (base : Heap) (K : PySem.W.Frag) (A : Adr) : Sp := fun vs H Q E => vs.length = 2 ∧ ∀ (cdv : Value) (Ar : Around) (outer : List Env) (s : Shared), Room 3 (Ar.deeper (PyProof.Rows.envOfC "is_part" (defScope s_is_part) s.heap.objs.size A.f_is_part cdv)) → ∃ t, PSs (cxOf CX0 P w K mg base ["part", "thing"] "is_part" (defScope s_is_part) A.f_is_part cdv Ar outer s H E).nox (defBody s_is_part) t ∧ t { nx := fun _ H' => Q .non H', rt := Q } (start ["part", "thing"] vs) H
theorem in_is_part {vs : List V} {H : Hp} {Q : VK} {E : XK} (h : ∀ (cdv : Value) (Ar : Around) (outer : List Env) (s : Shared), Room 3 (Ar.deeper (PyProof.Rows.envOfC "is_part" (defScope s_is_part) s.heap.objs.size A.f_is_part cdv)) → ∃ t, PSs (cxOf CX0 P w K mg base ["part", "thing"] "is_part" (defScope s_is_part) A.f_is_part cdv Ar outer s H E).nox (defBody s_is_part) t ∧ t { nx := fun _ H' => Q .non H', rt := Q } (start ["part", "thing"] vs) H) (e : vs.length = 2) : sp_is_part P w mg base K A vs H Q E := ⟨e, h⟩
theorem ok_is_part (T : Txt w K mg A) : FnOk P w K mg base CX0 4 A.f_is_part A.d_is_part ["part", "thing"] (sp_is_part P w mg base K A) := T.F_is_part.ok sc_is_part (fun _ _ _ _ h => h.1) (fun cdv Ar outer s H vs Q E hr h => h.2 cdv Ar outer s hr)
/-! first_wrong -/
theorem sc_first_wrong : FnScope ["parts", "part"] ["parts"] (defScope s_first_wrong) := ⟨rfl, rfl, rfl, by decide +kernel, rfl, by decide +kernel, by decide +kernel⟩
def sp_first_wrong (P : Program) (w : World) (mg : Str → Option Value) (base : Heap) (K : PySem.W.Frag) (A : Adr) : Sp := fun vs H Q E => vs.length = 1 ∧ ∀ (cdv : Value) (Ar : Around) (outer : List Env) (s : Shared), Room 4 (Ar.deeper (PyProof.Rows.envOfC "first_wrong" (defScope s_first_wrong) s.heap.objs.size A.f_first_wrong cdv)) → ∃ t, PSs (cxOf CX0 P w K mg base ["parts", "part"] "first_wrong" (defScope s_first_wrong) A.f_first_wrong cdv Ar outer s H E).nox (defBody s_first_wrong) t ∧ t { nx := fun _ H' => Q .non H', rt := Q } (start ["parts", "part"] vs) H
theorem in_first_wrong {vs : List V} {H : Hp} {Q : VK} {E : XK} (h : ∀ (cdv : Value) (Ar : Around) (outer : List Env) (s : Shared), Room 4 (Ar.deeper (PyProof.Rows.envOfC "first_wrong" (defScope s_first_wrong) s.heap.objs.size A.f_first_wrong cdv)) → ∃ t, PSs (cxOf CX0 P w K mg base ["parts", "part"] "first_wrong" (defScope s_first_wrong) A.f_first_wrong cdv Ar outer s H E).nox (defBody s_first_wrong) t ∧ t { nx := fun _ H' => Q .non H', rt := Q } (start ["parts", "part"] vs) H) (e : vs.length = 1) : sp_first_wrong P w mg base K A vs H Q E := ⟨e, h⟩
theorem ok_first_wrong (T : Txt w K mg A) : FnOk P w K mg base CX0 5 A.f_first_wrong A.d_first_wrong ["parts"] (sp_first_wrong P w mg base K A) := T.F_first_wrong.ok sc_first_wrong (fun _ _ _ _ h => h.1) (fun cdv Ar outer s H vs Q E hr h => h.2 cdv Ar outer s hr)
/-! Scheme.__init__ -/
theorem sc_Schemeu__initu_ : FnScope ["self", "wrap", "slot", "empty", "full", "when", "parts", "wrong"] ["self", "wrap", "slot", "empty", "full", "when"] (defScope s_Schemeu__initu_) := ⟨rfl, rfl, rfl, by decide +kernel, rfl, by decide +kernel, by decide +kernel⟩
abbrev sp_Schemeu__initu_ (K : PySem.W.Frag) (A : Adr) : Sp := fun vs H Q _ => ∃ (p dx : Addr) (vw vf : V) (t : Pt), vs = [.ref p, vw, .str t.slot, .str t.empty, vf, .str t.wen] ∧ H p = some (.ins A.c_Scheme dx []) ∧ IsWrap A H vw t.wrap ∧ IsFull A H vf t.full ∧ Wf t ∧ ∀ (d : Addr) (H' : Hp), Frm p H H' → H d = none → H' p = some (.ins A.c_Scheme dx (fS d)) → H' d = some (.dK (kvP vw t.slot t.empty vf t.wen)) → Q .non H'
theorem ok_Schemeu__initu_ (T : Txt w K mg A) : FnOk P w K mg base CX0 6 A.f_Schemeu__initu_ A.d_Schemeu__initu_ ["self", "wrap", "slot", "empty", "full", "when"] (sp_Schemeu__initu_ K A) := by
  refine T.F_Schemeu__initu_.ok sc_Schemeu__initu_ (fun vs H Q E h => ?_) (fun cdv Ar outer s H vs Q E hr h => ?_)
  · obtain ⟨p, dx, vw, vf, ⟨wr, sl, em, fl, wn⟩, rfl, hp, hw, hf, hwf, k⟩ := h
    rfl
  · obtain ⟨p, dx, vw, vf, ⟨wr, sl, em, fl, wn⟩, rfl, hp, hw, hf, hwf, k⟩ := h
    have hu := hu_of hr
    have t_q_PART_NAMES := T.q_PART_NAMES
    have t_q_PART_WORDS_slot := T.q_PART_WORDS_slot
    have t_d_PART_WORDS_slot := T.d_PART_WORDS_slot
    have t_q_PART_WORDS_empty := T.q_PART_WORDS_empty
    have t_d_PART_WORDS_empty := T.d_PART_WORDS_empty
    have t_q_PART_WORDS_when := T.q_PART_WORDS_when
    have t_d_PART_WORDS_when := T.d_PART_WORDS_when
    have t_q_MEASURES := T.q_MEASURES
    have t_q_SIGNS := T.q_SIGNS
    have t_q_PLAIN_FULLS := T.q_PLAIN_FULLS
    have t_i_Form := T.i_Form
    have t_kt_Form_Form := T.kt_Form_Form
    have t_kt_int_Form := T.kt_int_Form
    have t_nf_Form_Form := T.nf_Form_Form
    have t_nf_int_Form := T.nf_int_Form
    have t_k_Form := T.k_Form
    have t_k_Scheme := T.k_Scheme
    obtain ⟨w1, w2, w3, w4, w5, w6⟩ := hwf
    dsimp only at w1 w2 w3 w4 w5 w6 hw hf k
    rcases wr with w | ⟨s, b⟩ <;> rcases fl with kk | ⟨kk, g, s2, b2⟩ <;> rcases Decidable.em (sl = "mask") with hm | hm
    any_goals (first | exact absurd hm (w6 _ _ rfl) | skip)
    · have hw : vw = .int w := hw
      subst hw
      have w1 : 1 ≤ w ∧ w ≤ 100 := w1
      obtain ⟨pf, rfl, hpf⟩ := hf
      have i4 : inV (.str kk) [.str "next", .str "note"] = true := Rd.inW (ws := ["next", "note"]) w4
      have n4 : (!inV (.str kk) [.str "next", .str "note"]) = false := Rd.notF i4
      have i2 : (!inV (.str sl) [.str "rest", .str "off", .str "mask"]) = false := Rd.notF (Rd.inW (ws := ["rest", "off", "mask"]) w2)
      have i3 : (!inV (.str em) [.str "same", .str "count", .str "note"]) = false := Rd.notF (Rd.inW (ws := ["same", "count", "note"]) w3)
      have i6 : (!inV (.str wn) [.str "refuse", .str "drop", .str "over"]) = false := Rd.notF (Rd.inW (ws := ["refuse", "drop", "over"]) w5)
      have m1 : decide (V.str sl = V.str "mask") = true := decide_eq_true (by rw [hm])
      refine ⟨_, (pss_cons (ps_set (i := 6) sc_Schemeu__initu_.nd rfl (Or.inl rfl) (pe_disp (pps_cons pe_str (pv 1) (pps_cons pe_str (pv 2) (pps_cons pe_str (pv 3) (pps_cons pe_str (pv 4) (pps_cons pe_str (pv 5) pps_nil))))) rfl rfl (by simp) (by decide)))
      (pss_cons (ps_set (i := 7) sc_Schemeu__initu_.nd rfl (Or.inl rfl) (pe_call (ok_first_wrong T) (hr.mono (by decide)) (by rfl) T.m_first_wrong T.F_first_wrong.kp T.b_first_wrong .nil pass0 (pa_cons (pv 6) pa_nil)))
      (pss_cons (ps_if (pt_cmpR op_notN (pv 7) pe_non (nomark _)) (pss_one ps_never) pss_nil)
      (pss_one (ps_fld (pv 0) (pv 6) rfl))))), ?_⟩
      try dsimp only [L2.cxOf, L2.Cx.nox, L2.Cx.wish]
      with_reducible refine Rd.seq (Rd.asg ?_)
      refine Rd.disp5 (fun _ _ h => Rd.var (by walk_at "vr") h) (fun _ _ h => Rd.var (by walk_at "vr") h) (fun _ _ h => Rd.var (by walk_at "vr") h) (fun _ _ h => Rd.var (by walk_at "vr") h) (fun _ _ h => Rd.var (by walk_at "vr") h) ?_
      intro pd245_16 npd245_16
      rw [kvP_merge]
      with_reducible refine Rd.name (Rd.seq (Rd.asg (Rd.call (Rd.cons (Rd.var (by walk_at "vr") (Rd.nil ?_))))))
      refine in_first_wrong (fun cdv Ar outer s hr => ?_) rfl
      have hu := hu_of hr
      refine ⟨_, (pss_cons (ps_for PassesOwn.never rfl (pi_tup (pe_glob (v := .ref A.t_PART_NAMES) rfl T.m_PART_NAMES rfl)) (pg_name (i := 1) sc_first_wrong.nd rfl (Or.inl rfl)) (pss_cons (ps_if (pt_not (pt_val (pe_call (ok_is_part T) (hr.mono (by decide)) (by rfl) T.m_is_part T.F_is_part.kp T.b_is_part .nil pass0 (pa_cons (pv 1) (pa_cons (pe_dget hu (pv 0) (pv 1) (fun _ _ => rfl)) pa_nil))))) (pss_one ps_never) pss_nil) (pss_one (ps_if (PW.pt (pw_and (pt_cmpR op_eq (pv 1) pe_str (nomark _)) (pw_and (pt_cmpR op_eq (pe_dget hu (pv 0) pe_str (fun _ _ => rfl)) pe_str (nomark _)) (pw_and1 (pt_val (pe_callB (Rd.isi (K := K) rfl) (by rfl) T.n_isinstance (by decide +kernel) (pa_cons (pe_dget hu (pv 0) pe_str (fun _ _ => rfl)) (pa_cons (pe_glob (v := .ref A.c_Form) rfl T.m_Form rfl) pa_nil)))))))) (pss_one ps_never) pss_nil))))
            (pss_one (ps_ret pe_non))), ?_⟩
      try dsimp only [L2.cxOf, L2.Cx.nox, L2.Cx.wish]
      with_reducible refine Rd.seq (Rd.fr (Rd.it (Rd.c (⟨_, rfl, ?_⟩))))
      refine Rd.unrollT (by walk_at "hpt") ?_
      refine Rd.unrTCons ?_
      with_reducible refine Rd.name ?_
      dsimp only [List.set]
      with_reducible refine Rd.seq (Rd.ifS (Rd.not (Rd.tb (Rd.call (Rd.cons (Rd.var (by walk_at "vr") (Rd.cons (Rd.dget (Rd.var (by walk_at "vr") (Rd.var (by walk_at "vr") ?_))))))))))
      refine Rd.dget2 (by walk_at "hp") (by walk_at "dl") ?_
      with_reducible refine Rd.nil ?_
      refine in_is_part (fun cdv Ar outer s hr => ?_) rfl
      have hu := hu_of hr
      refine ⟨_, (pss_cons (ps_if (pt_cmpR op_eq (pv 0) pe_str (nomark _)) (pss_one (ps_ret (pe_call (ok_is_wrap T) (hr.mono (by decide)) (by rfl) T.m_is_wrap T.F_is_wrap.kp T.b_is_wrap .nil pass0 (pa_cons (pv 1) pa_nil)))) pss_nil)
            (pss_cons ps_never (pss_one ps_never))), ?_⟩
      try dsimp only [L2.cxOf, L2.Cx.nox, L2.Cx.wish]
      with_reducible refine Rd.seq (Rd.ifS (Rd.test (Rd.op (Rd.var (by walk_at "vr") (Rd.c (Rd.eqS (by walk_at "vr") (Rd.bl (Rd.iteT (by first | with_unfolding_all rfl | walk_at "bT") (Rd.ret (Rd.call (Rd.cons ?_)))))))))))
      with_reducible refine Rd.var (by walk_at "vr") (Rd.nil ?_)
      refine in_is_wrap (fun cdv Ar outer s hr => ?_) rfl
      have hu := hu_of hr
      refine ⟨_, (pss_one (ps_ret (pe_or (pe_call (ok_is_small_form T) (hr.mono (by decide)) (by rfl) T.m_is_small_form T.F_is_small_form.kp T.b_is_small_form .nil pass0 (pa_cons (pv 0) pa_nil)) (pe_one (pe_call (ok_is_whole_from T) (hr.mono (by decide)) (by rfl) T.m_is_whole_from T.F_is_whole_from.kp T.b_is_whole_from .nil pass0 (pa_cons (pv 0) (pa_cons pe_int (pa_cons (pe_glob (v := .int (100)) rfl T.m_GREATEST_WIDTH ⟨_, rfl⟩) pa_nil)))))))), ?_⟩
      try dsimp only [L2.cxOf, L2.Cx.nox, L2.Cx.wish]
      with_reducible refine Rd.ret (Rd.orV (Rd.call (Rd.cons (Rd.var (by walk_at "vr") (Rd.nil ?_)))))
      refine in_is_small_form (fun cdv Ar outer s hr => ?_) rfl
      have hu := hu_of hr
      refine ⟨_, (pss_cons (ps_if (pt_not (pt_val (pe_callB (Rd.isi (K := K) rfl) (by rfl) T.n_isinstance (by decide +kernel) (pa_cons (pv 0) (pa_cons (pe_glob (v := .ref A.c_Form) rfl T.m_Form rfl) pa_nil))))) (pss_one (ps_ret pe_bl)) pss_nil)
            (pss_one ps_never)), ?_⟩
      try dsimp only [L2.cxOf, L2.Cx.nox, L2.Cx.wish]
      with_reducible refine Rd.seq (Rd.ifS (Rd.not (Rd.tb (Rd.cB (Rd.cons (Rd.var (by walk_at "vr") (Rd.cons (Rd.c (Rd.nil ?_)))))))))
      refine ⟨_, _, _, _, _, rfl, (by walk_at "clsv"), (by walk_at "tyx"), (by walk_at "kit"), ?_⟩
      with_reducible refine Rd.bl (Rd.iteT (by first | with_unfolding_all rfl | walk_at "bT") (Rd.ret (Rd.c (Rd.bl (Rd.iteF (by first | with_unfolding_all rfl | walk_at "bF") (Rd.call (Rd.cons (Rd.var (by walk_at "vr") (Rd.cons (Rd.c (Rd.cons ?_)))))))))))
      with_reducible refine Rd.c (Rd.nil ?_)
      refine ⟨_, _, _, rfl, (by walk_at "sc"), (by walk_at "sc"), ?_⟩
      with_reducible refine Rd.bl (Rd.iteF (by walk_at "bF") (Rd.next (Rd.ifS (Rd.and (Rd.test (Rd.op (Rd.var (by walk_at "vr") (Rd.c (Rd.eqS (by walk_at "vr") (Rd.bl (Rd.iteF (by first | with_unfolding_all rfl | walk_at "bF") ?_)))))))))))
      with_reducible refine Rd.iteF rfl (Rd.next ?_)
      refine ⟨by walk_at "hpt", ?_⟩
      refine Rd.unrTCons ?_
      with_reducible refine Rd.name ?_
      dsimp only [List.set]
      with_reducible refine Rd.seq (Rd.ifS (Rd.not (Rd.tb (Rd.call (Rd.cons (Rd.var (by walk_at "vr") (Rd.cons (Rd.dget (Rd.var (by walk_at "vr") (Rd.var (by walk_at "vr") ?_))))))))))
      refine Rd.dget2 (by walk_at "hp") (by walk_at "dl") ?_
      with_reducible refine Rd.nil ?_
      refine in_is_part (fun cdv Ar outer s hr => ?_) rfl
      have hu := hu_of hr
      refine ⟨_, (pss_cons (ps_if (pt_cmpR op_eq (pv 0) pe_str (nomark _)) (pss_one ps_never) pss_nil)
            (pss_cons (ps_if (pt_cmpR op_eq (pv 0) pe_str (nomark _)) (pss_one ps_never) pss_nil)
            (pss_one (ps_ret (pe_call (ok_is_word_of T) (hr.mono (by decide)) (by rfl) T.m_is_word_of T.F_is_word_of.kp T.b_is_word_of .nil pass0 (pa_cons (pv 1) (pa_cons (pe_ix ix_kdict (pe_glob (v := .ref A.t_PART_WORDS) rfl T.m_PART_WORDS rfl) (pv 0) (fun _ _ => rfl)) pa_nil))))))), ?_⟩
      try dsimp only [L2.cxOf, L2.Cx.nox, L2.Cx.wish]
      with_reducible refine Rd.seq (Rd.ifS (Rd.test (Rd.op (Rd.var (by walk_at "vr") (Rd.c (Rd.eqS (by walk_at "vr") (Rd.bl (Rd.iteF (by first | with_unfolding_all rfl | walk_at "bF") (Rd.next (Rd.seq (Rd.ifS ?_)))))))))))
      with_reducible refine Rd.test (Rd.op (Rd.var (by walk_at "vr") (Rd.c (Rd.eqS (by walk_at "vr") (Rd.bl (Rd.iteF (by first | with_unfolding_all rfl | walk_at "bF") (Rd.next (Rd.ret (Rd.call (Rd.cons (Rd.var (by walk_at "vr") ?_)))))))))))
      with_reducible refine Rd.cons (Rd.op (Rd.c (Rd.var (by walk_at "vr") ?_)))
      refine ⟨_, _, _, rfl, rfl, T.d_PART_WORDS_slot, ?_⟩
      with_reducible refine Rd.nil ?_
      refine in_is_word_of (fun cdv Ar outer s hr => ?_) rfl
      have hu := hu_of hr
      refine ⟨_, (pss_one (ps_ret (pe_and (pe_callB (Rd.isi (K := K) rfl) (by rfl) T.n_isinstance (by decide +kernel) (pa_cons (pv 0) (pa_cons (pe_bltn (v := .ty "str") (u := .type "str") (by rfl) T.n_str (by decide +kernel) rfl) pa_nil))) (pe_one (pe_cmpR op_in_seq (pv 0) (pv 1) (by with_unfolding_all rfl)))))), ?_⟩
      try dsimp only [L2.cxOf, L2.Cx.nox, L2.Cx.wish]
      with_reducible refine Rd.ret (Rd.andV (Rd.cB (Rd.cons (Rd.var (by walk_at "vr") (Rd.cons (Rd.c (Rd.nil ?_)))))))
      refine ⟨_, _, _, _, _, rfl, (by walk_at "clsv"), (by walk_at "tyx"), (by walk_at "kit"), ?_⟩
      with_reducible refine Rd.bl (Rd.iteT (by first | with_unfolding_all rfl | walk_at "bT") (Rd.op (Rd.var (by walk_at "vr") (Rd.var (by walk_at "vr") ?_))))
      refine Rd.inT (.inr (by walk_at "hpt")) rfl (by walk_at "flt") ?_
      with_reducible refine Rd.bl (Rd.iteF (by walk_at "bF") (Rd.next (Rd.ifS (Rd.and (Rd.test (Rd.op (Rd.var (by walk_at "vr") (Rd.c (Rd.eqS (by walk_at "vr") (Rd.bl (Rd.iteT (by first | with_unfolding_all rfl | walk_at "bT") ?_)))))))))))
      with_reducible refine Rd.and (Rd.test (Rd.op (Rd.dget (Rd.var (by walk_at "vr") (Rd.c ?_)))))
      refine Rd.dget2 (by walk_at "hp") (by walk_at "dl") ?_
      with_reducible refine Rd.c (Rd.eqS (by walk_at "vr") (Rd.bl (Rd.iteT (by walk_at "bT") (Rd.tb (Rd.cB (Rd.cons (Rd.dget (Rd.var (by walk_at "vr") (Rd.c ?_)))))))))
      refine Rd.dget2 (by walk_at "hp") (by walk_at "dl") ?_
      with_reducible refine Rd.cons (Rd.c (Rd.nil ?_))
      refine ⟨_, _, _, _, _, rfl, (by walk_at "clsv"), (by walk_at "tyx"), (by walk_at "kit"), ?_⟩
      with_reducible refine Rd.bl (Rd.iteF (by first | with_unfolding_all rfl | walk_at "bF") (Rd.next ?_))
      refine ⟨by walk_at "hpt", ?_⟩
      refine Rd.unrTCons ?_
      with_reducible refine Rd.name ?_
      dsimp only [List.set]
      with_reducible refine Rd.seq (Rd.ifS (Rd.not (Rd.tb (Rd.call (Rd.cons (Rd.var (by walk_at "vr") (Rd.cons (Rd.dget (Rd.var (by walk_at "vr") (Rd.var (by walk_at "vr") ?_))))))))))
      refine Rd.dget2 (by walk_at "hp") (by walk_at "dl") ?_
      with_reducible refine Rd.nil ?_
      refine in_is_part (fun cdv Ar outer s hr => ?_) rfl
      have hu := hu_of hr
      refine ⟨_, (pss_cons (ps_if (pt_cmpR op_eq (pv 0) pe_str (nomark _)) (pss_one ps_never) pss_nil)
            (pss_cons (ps_if (pt_cmpR op_eq (pv 0) pe_str (nomark _)) (pss_one ps_never) pss_nil)
            (pss_one (ps_ret (pe_call (ok_is_word_of T) (hr.mono (by decide)) (by rfl) T.m_is_word_of T.F_is_word_of.kp T.b_is_word_of .nil pass0 (pa_cons (pv 1) (pa_cons (pe_ix ix_kdict (pe_glob (v := .ref A.t_PART_WORDS) rfl T.m_PART_WORDS rfl) (pv 0) (fun _ _ => rfl)) pa_nil))))))), ?_⟩
      try dsimp only [L2.cxOf, L2.Cx.nox, L2.Cx.wish]
      with_reducible refine Rd.seq (Rd.ifS (Rd.test (Rd.op (Rd.var (by walk_at "vr") (Rd.c (Rd.eqS (by walk_at "vr") (Rd.bl (Rd.iteF (by first | with_unfolding_all rfl | walk_at "bF") (Rd.next (Rd.seq (Rd.ifS ?_)))))))))))
      with_reducible refine Rd.test (Rd.op (Rd.var (by walk_at "vr") (Rd.c (Rd.eqS (by walk_at "vr") (Rd.bl (Rd.iteF (by first | with_unfolding_all rfl | walk_at "bF") (Rd.next (Rd.ret (Rd.call (Rd.cons (Rd.var (by walk_at "vr") ?_)))))))))))
      with_reducible refine Rd.cons (Rd.op (Rd.c (Rd.var (by walk_at "vr") ?_)))
      refine ⟨_, _, _, rfl, rfl, T.d_PART_WORDS_empty, ?_⟩
      with_reducible refine Rd.nil ?_
      refine in_is_word_of (fun cdv Ar outer s hr => ?_) rfl
      have hu := hu_of hr
      refine ⟨_, (pss_one (ps_ret (pe_and (pe_callB (Rd.isi (K := K) rfl) (by rfl) T.n_isinstance (by decide +kernel) (pa_cons (pv 0) (pa_cons (pe_bltn (v := .ty "str") (u := .type "str") (by rfl) T.n_str (by decide +kernel) rfl) pa_nil))) (pe_one (pe_cmpR op_in_seq (pv 0) (pv 1) (by with_unfolding_all rfl)))))), ?_⟩
      try dsimp only [L2.cxOf, L2.Cx.nox, L2.Cx.wish]
      with_reducible refine Rd.ret (Rd.andV (Rd.cB (Rd.cons (Rd.var (by walk_at "vr") (Rd.cons (Rd.c (Rd.nil ?_)))))))
      refine ⟨_, _, _, _, _, rfl, (by walk_at "clsv"), (by walk_at "tyx"), (by walk_at "kit"), ?_⟩
      with_reducible refine Rd.bl (Rd.iteT (by first | with_unfolding_all rfl | walk_at "bT") (Rd.op (Rd.var (by walk_at "vr") (Rd.var (by walk_at "vr") ?_))))
      refine Rd.inT (.inr (by walk_at "hpt")) rfl (by walk_at "flt") ?_
      with_reducible refine Rd.bl (Rd.iteF (by walk_at "bF") (Rd.next (Rd.ifS (Rd.and (Rd.test (Rd.op (Rd.var (by walk_at "vr") (Rd.c (Rd.eqS (by walk_at "vr") (Rd.bl (Rd.iteF (by first | with_unfolding_all rfl | walk_at "bF") ?_)))))))))))
      with_reducible refine Rd.iteF rfl (Rd.next ?_)
      refine ⟨by walk_at "hpt", ?_⟩
      refine Rd.unrTCons ?_
      with_reducible refine Rd.name ?_
      dsimp only [List.set]
      with_reducible refine Rd.seq (Rd.ifS (Rd.not (Rd.tb (Rd.call (Rd.cons (Rd.var (by walk_at "vr") (Rd.cons (Rd.dget (Rd.var (by walk_at "vr") (Rd.var (by walk_at "vr") ?_))))))))))
      refine Rd.dget2 (by walk_at "hp") (by walk_at "dl") ?_
      with_reducible refine Rd.nil ?_
      refine in_is_part (fun cdv Ar outer s hr => ?_) rfl
      have hu := hu_of hr
      refine ⟨_, (pss_cons (ps_if (pt_cmpR op_eq (pv 0) pe_str (nomark _)) (pss_one ps_never) pss_nil)
            (pss_cons (ps_if (pt_cmpR op_eq (pv 0) pe_str (nomark _)) (pss_one (ps_ret (pe_call (ok_is_full T) (hr.mono (by decide)) (by rfl) T.m_is_full T.F_is_full.kp T.b_is_full .nil pass0 (pa_cons (pv 1) pa_nil)))) pss_nil)
            (pss_one ps_never))), ?_⟩
      try dsimp only [L2.cxOf, L2.Cx.nox, L2.Cx.wish]
      with_reducible refine Rd.seq (Rd.ifS (Rd.test (Rd.op (Rd.var (by walk_at "vr") (Rd.c (Rd.eqS (by walk_at "vr") (Rd.bl (Rd.iteF (by first | with_unfolding_all rfl | walk_at "bF") (Rd.next (Rd.seq (Rd.ifS ?_)))))))))))
      with_reducible refine Rd.test (Rd.op (Rd.var (by walk_at "vr") (Rd.c (Rd.eqS (by walk_at "vr") (Rd.bl (Rd.iteT (by first | with_unfolding_all rfl | walk_at "bT") (Rd.ret (Rd.call (Rd.cons (Rd.var (by walk_at "vr") (Rd.nil ?_)))))))))))
      refine in_is_full (fun cdv Ar outer s hr => ?_) rfl
      have hu := hu_of hr
      refine ⟨_, (pss_cons (ps_if (pt_not (pt_val (pe_callB (Rd.isi (K := K) rfl) (by rfl) T.n_isinstance (by decide +kernel) (pa_cons (pv 0) (pa_cons (pe_bltn (v := .ty "tuple") (u := .type "tuple") (by rfl) T.n_tuple (by decide +kernel) rfl) pa_nil))))) (pss_one ps_never) pss_nil)
            (pss_cons (ps_if (pt_cmpR op_eq (pe_callB call_len_seq (by rfl) T.n_len PySem.boot_len (pa_cons (pv 0) pa_nil)) pe_int (nomark _)) (pss_one (ps_ret (pe_call (ok_is_word_of T) (hr.mono (by decide)) (by rfl) T.m_is_word_of T.F_is_word_of.kp T.b_is_word_of .nil pass0 (pa_cons (pe_ix (Rd.ixTK rfl) (pv 0) pe_int (fun _ _ => rfl)) (pa_cons (pe_glob (v := .ref A.t_PLAIN_FULLS) rfl T.m_PLAIN_FULLS rfl) pa_nil))))) pss_nil)
            (pss_cons ps_never (pss_one ps_never)))), ?_⟩
      try dsimp only [L2.cxOf, L2.Cx.nox, L2.Cx.wish]
      with_reducible refine Rd.seq (Rd.ifS (Rd.not (Rd.tb (Rd.cB (Rd.cons (Rd.var (by walk_at "vr") (Rd.cons (Rd.c (Rd.nil ?_)))))))))
      refine ⟨_, _, _, _, _, rfl, (by walk_at "clsv"), (by walk_at "tyx"), (by walk_at "kit"), ?_⟩
      with_reducible refine Rd.bl (Rd.iteF (by first | with_unfolding_all rfl | walk_at "bF") (Rd.next (Rd.seq (Rd.ifS (Rd.test (Rd.op (Rd.cB (Rd.cons (Rd.var (by walk_at "vr") (Rd.nil (⟨_, _, rfl, (by walk_at "hpq"), ?_⟩)))))))))))
      with_reducible refine Rd.c (Rd.eqS (by walk_at "vr") (Rd.bl (Rd.iteT (by first | with_unfolding_all rfl | walk_at "bT") (Rd.ret (Rd.call (Rd.cons (Rd.op (Rd.var (by walk_at "vr") (Rd.c (Rd.ixT (by walk_at "hpt") (by walk_at "vr") (Rd.cons ?_)))))))))))
      with_reducible refine Rd.c (Rd.nil ?_)
      refine in_is_word_of (fun cdv Ar outer s hr => ?_) rfl
      have hu := hu_of hr
      refine ⟨_, (pss_one (ps_ret (pe_and (pe_callB (Rd.isi (K := K) rfl) (by rfl) T.n_isinstance (by decide +kernel) (pa_cons (pv 0) (pa_cons (pe_bltn (v := .ty "str") (u := .type "str") (by rfl) T.n_str (by decide +kernel) rfl) pa_nil))) (pe_one (pe_cmpR op_in_seq (pv 0) (pv 1) (by with_unfolding_all rfl)))))), ?_⟩
      try dsimp only [L2.cxOf, L2.Cx.nox, L2.Cx.wish]
      with_reducible refine Rd.ret (Rd.andV (Rd.cB (Rd.cons (Rd.var (by walk_at "vr") (Rd.cons (Rd.c (Rd.nil ?_)))))))
      refine ⟨_, _, _, _, _, rfl, (by walk_at "clsv"), (by walk_at "tyx"), (by walk_at "kit"), ?_⟩
      with_reducible refine Rd.bl (Rd.iteT (by first | with_unfolding_all rfl | walk_at "bT") (Rd.op (Rd.var (by walk_at "vr") (Rd.var (by walk_at "vr") ?_))))
      refine Rd.inT (.inr (by walk_at "hpt")) rfl (by walk_at "flt") ?_
      with_reducible refine Rd.bl (Rd.iteF (by walk_at "bF") (Rd.next (Rd.ifS (Rd.and (Rd.test (Rd.op (Rd.var (by walk_at "vr") (Rd.c (Rd.eqS (by walk_at "vr") (Rd.bl (Rd.iteF (by first | with_unfolding_all rfl | walk_at "bF") ?_)))))))))))
      with_reducible refine Rd.iteF rfl (Rd.next ?_)
      refine ⟨by walk_at "hpt", ?_⟩
      refine Rd.unrTCons ?_
      with_reducible refine Rd.name ?_
      dsimp only [List.set]
      with_reducible refine Rd.seq (Rd.ifS (Rd.not (Rd.tb (Rd.call (Rd.cons (Rd.var (by walk_at "vr") (Rd.cons (Rd.dget (Rd.var (by walk_at "vr") (Rd.var (by walk_at "vr") ?_))))))))))
      refine Rd.dget2 (by walk_at "hp") (by walk_at "dl") ?_
      with_reducible refine Rd.nil ?_
      refine in_is_part (fun cdv Ar outer s hr => ?_) rfl
      have hu := hu_of hr
      refine ⟨_, (pss_cons (ps_if (pt_cmpR op_eq (pv 0) pe_str (nomark _)) (pss_one ps_never) pss_nil)
            (pss_cons (ps_if (pt_cmpR op_eq (pv 0) pe_str (nomark _)) (pss_one ps_never) pss_nil)
            (pss_one (ps_ret (pe_call (ok_is_word_of T) (hr.mono (by decide)) (by rfl) T.m_is_word_of T.F_is_word_of.kp T.b_is_word_of .nil pass0 (pa_cons (pv 1) (pa_cons (pe_ix ix_kdict (pe_glob (v := .ref A.t_PART_WORDS) rfl T.m_PART_WORDS rfl) (pv 0) (fun _ _ => rfl)) pa_nil))))))), ?_⟩
      try dsimp only [L2.cxOf, L2.Cx.nox, L2.Cx.wish]
      with_reducible refine Rd.seq (Rd.ifS (Rd.test (Rd.op (Rd.var (by walk_at "vr") (Rd.c (Rd.eqS (by walk_at "vr") (Rd.bl (Rd.iteF (by first | with_unfolding_all rfl | walk_at "bF") (Rd.next (Rd.seq (Rd.ifS ?_)))))))))))
      with_reducible refine Rd.test (Rd.op (Rd.var (by walk_at "vr") (Rd.c (Rd.eqS (by walk_at "vr") (Rd.bl (Rd.iteF (by first | with_unfolding_all rfl | walk_at "bF") (Rd.next (Rd.ret (Rd.call (Rd.cons (Rd.var (by walk_at "vr") ?_)))))))))))
      with_reducible refine Rd.cons (Rd.op (Rd.c (Rd.var (by walk_at "vr") ?_)))
      refine ⟨_, _, _, rfl, rfl, T.d_PART_WORDS_when, ?_⟩
      with_reducible refine Rd.nil ?_
      refine in_is_word_of (fun cdv Ar outer s hr => ?_) rfl
      have hu := hu_of hr
      refine ⟨_, (pss_one (ps_ret (pe_and (pe_callB (Rd.isi (K := K) rfl) (by rfl) T.n_isinstance (by decide +kernel) (pa_cons (pv 0) (pa_cons (pe_bltn (v := .ty "str") (u := .type "str") (by rfl) T.n_str (by decide +kernel) rfl) pa_nil))) (pe_one (pe_cmpR op_in_seq (pv 0) (pv 1) (by with_unfolding_all rfl)))))), ?_⟩
      try dsimp only [L2.cxOf, L2.Cx.nox, L2.Cx.wish]
      with_reducible refine Rd.ret (Rd.andV (Rd.cB (Rd.cons (Rd.var (by walk_at "vr") (Rd.cons (Rd.c (Rd.nil ?_)))))))
      refine ⟨_, _, _, _, _, rfl, (by walk_at "clsv"), (by walk_at "tyx"), (by walk_at "kit"), ?_⟩
      with_reducible refine Rd.bl (Rd.iteT (by first | with_unfolding_all rfl | walk_at "bT") (Rd.op (Rd.var (by walk_at "vr") (Rd.var (by walk_at "vr") ?_))))
      refine Rd.inT (.inr (by walk_at "hpt")) rfl (by walk_at "flt") ?_
      with_reducible refine Rd.bl (Rd.iteF (by walk_at "bF") (Rd.next (Rd.ifS (Rd.and (Rd.test (Rd.op (Rd.var (by walk_at "vr") (Rd.c (Rd.eqS (by walk_at "vr") (Rd.bl (Rd.iteF (by first | with_unfolding_all rfl | walk_at "bF") ?_)))))))))))
      with_reducible refine Rd.iteF rfl (Rd.next ?_)
      refine ⟨by walk_at "hpt", ?_⟩
      refine Rd.unrTNil ?_
      with_reducible refine Rd.ret (Rd.c (Rd.name (Rd.seq (Rd.ifS (Rd.test (Rd.op (Rd.var (by walk_at "vr") (Rd.c (⟨rfl, (Rd.bl (Rd.iteF (by first | with_unfolding_all rfl | walk_at "bF") ?_))⟩)))))))))
      with_reducible refine Rd.next (Rd.sfld (Rd.var (by walk_at "vr") (Rd.var (by walk_at "vr") (⟨_, _, _, _, rfl, (by walk_at "hp"), T.k_Scheme, T.n_Scheme_parts, (by walk_at "sfl"), ?_⟩))))
      rw [fS_put]
      exact k _ _ (by walk_at "frm") (by assumption) L2.upd_same (by walk_at "hp")
    · have hw : vw = .int w := hw
      subst hw
      have w1 : 1 ≤ w ∧ w ≤ 100 := w1
      obtain ⟨pf, rfl, hpf⟩ := hf
      have i4 : inV (.str kk) [.str "next", .str "note"] = true := Rd.inW (ws := ["next", "note"]) w4
      have n4 : (!inV (.str kk) [.str "next", .str "note"]) = false := Rd.notF i4
      have i2 : (!inV (.str sl) [.str "rest", .str "off", .str "mask"]) = false := Rd.notF (Rd.inW (ws := ["rest", "off", "mask"]) w2)
      have i3 : (!inV (.str em) [.str "same", .str "count", .str "note"]) = false := Rd.notF (Rd.inW (ws := ["same", "count", "note"]) w3)
      have i6 : (!inV (.str wn) [.str "refuse", .str "drop", .str "over"]) = false := Rd.notF (Rd.inW (ws := ["refuse", "drop", "over"]) w5)
      have m1 : decide (V.str sl = V.str "mask") = false := nmask hm
      refine ⟨_, (pss_cons (ps_set (i := 6) sc_Schemeu__initu_.nd rfl (Or.inl rfl) (pe_disp (pps_cons pe_str (pv 1) (pps_cons pe_str (pv 2) (pps_cons pe_str (pv 3) (pps_cons pe_str (pv 4) (pps_cons pe_str (pv 5) pps_nil))))) rfl rfl (by simp) (by decide)))
      (pss_cons (ps_set (i := 7) sc_Schemeu__initu_.nd rfl (Or.inl rfl) (pe_call (ok_first_wrong T) (hr.mono (by decide)) (by rfl) T.m_first_wrong T.F_first_wrong.kp T.b_first_wrong .nil pass0 (pa_cons (pv 6) pa_nil)))
      (pss_cons (ps_if (pt_cmpR op_notN (pv 7) pe_non (nomark _)) (pss_one ps_never) pss_nil)
      (pss_one (ps_fld (pv 0) (pv 6) rfl))))), ?_⟩
      try dsimp only [L2.cxOf, L2.Cx.nox, L2.Cx.wish]
      with_reducible refine Rd.seq (Rd.asg ?_)
      refine Rd.disp5 (fun _ _ h => Rd.var (by walk_at "vr") h) (fun _ _ h => Rd.var (by walk_at "vr") h) (fun _ _ h => Rd.var (by walk_at "vr") h) (fun _ _ h => Rd.var (by walk_at "vr") h) (fun _ _ h => Rd.var (by walk_at "vr") h) ?_
      intro pd245_16 npd245_16
      rw [kvP_merge]
      with_reducible refine Rd.name (Rd.seq (Rd.asg (Rd.call (Rd.cons (Rd.var (by walk_at "vr") (Rd.nil ?_))))))
      refine in_first_wrong (fun cdv Ar outer s hr => ?_) rfl
      have hu := hu_of hr
      refine ⟨_, (pss_cons (ps_for PassesOwn.never rfl (pi_tup (pe_glob (v := .ref A.t_PART_NAMES) rfl T.m_PART_NAMES rfl)) (pg_name (i := 1) sc_first_wrong.nd rfl (Or.inl rfl)) (pss_cons (ps_if (pt_not (pt_val (pe_call (ok_is_part T) (hr.mono (by decide)) (by rfl) T.m_is_part T.F_is_part.kp T.b_is_part .nil pass0 (pa_cons (pv 1) (pa_cons (pe_dget hu (pv 0) (pv 1) (fun _ _ => rfl)) pa_nil))))) (pss_one ps_never) pss_nil) (pss_one (ps_if (PW.pt (pw_and (pt_cmpR op_eq (pv 1) pe_str (nomark _)) (pw_and (pt_cmpR op_eq (pe_dget hu (pv 0) pe_str (fun _ _ => rfl)) pe_str (nomark _)) (pw_and1 Rd.ptN)))) (pss_one ps_never) pss_nil))))
            (pss_one (ps_ret pe_non))), ?_⟩
      try dsimp only [L2.cxOf, L2.Cx.nox, L2.Cx.wish]
      with_reducible refine Rd.seq (Rd.fr (Rd.it (Rd.c (⟨_, rfl, ?_⟩))))
      refine Rd.unrollT (by walk_at "hpt") ?_
      refine Rd.unrTCons ?_
      with_reducible refine Rd.name ?_
      dsimp only [List.set]
      with_reducible refine Rd.seq (Rd.ifS (Rd.not (Rd.tb (Rd.call (Rd.cons (Rd.var (by walk_at "vr") (Rd.cons (Rd.dget (Rd.var (by walk_at "vr") (Rd.var (by walk_at "vr") ?_))))))))))
      refine Rd.dget2 (by walk_at "hp") (by walk_at "dl") ?_
      with_reducible refine Rd.nil ?_
      refine in_is_part (fun cdv Ar outer s hr => ?_) rfl
      have hu := hu_of hr
      refine ⟨_, (pss_cons (ps_if (pt_cmpR op_eq (pv 0) pe_str (nomark _)) (pss_one (ps_ret (pe_call (ok_is_wrap T) (hr.mono (by decide)) (by rfl) T.m_is_wrap T.F_is_wrap.kp T.b_is_wrap .nil pass0 (pa_cons (pv 1) pa_nil)))) pss_nil)
            (pss_cons ps_never (pss_one ps_never))), ?_⟩
      try dsimp only [L2.cxOf, L2.Cx.nox, L2.Cx.wish]
      with_reducible refine Rd.seq (Rd.ifS (Rd.test (Rd.op (Rd.var (by walk_at "vr") (Rd.c (Rd.eqS (by walk_at "vr") (Rd.bl (Rd.iteT (by first | with_unfolding_all rfl | walk_at "bT") (Rd.ret (Rd.call (Rd.cons ?_)))))))))))
      with_reducible refine Rd.var (by walk_at "vr") (Rd.nil ?_)
      refine in_is_wrap (fun cdv Ar outer s hr => ?_) rfl
      have hu := hu_of hr
      refine ⟨_, (pss_one (ps_ret (pe_or (pe_call (ok_is_small_form T) (hr.mono (by decide)) (by rfl) T.m_is_small_form T.F_is_small_form.kp T.b_is_small_form .nil pass0 (pa_cons (pv 0) pa_nil)) (pe_one (pe_call (ok_is_whole_from T) (hr.mono (by decide)) (by rfl) T.m_is_whole_from T.F_is_whole_from.kp T.b_is_whole_from .nil pass0 (pa_cons (pv 0) (pa_cons pe_int (pa_cons (pe_glob (v := .int (100)) rfl T.m_GREATEST_WIDTH ⟨_, rfl⟩) pa_nil)))))))), ?_⟩
      try dsimp only [L2.cxOf, L2.Cx.nox, L2.Cx.wish]
      with_reducible refine Rd.ret (Rd.orV (Rd.call (Rd.cons (Rd.var (by walk_at "vr") (Rd.nil ?_)))))
      refine in_is_small_form (fun cdv Ar outer s hr => ?_) rfl
      have hu := hu_of hr
      refine ⟨_, (pss_cons (ps_if (pt_not (pt_val (pe_callB (Rd.isi (K := K) rfl) (by rfl) T.n_isinstance (by decide +kernel) (pa_cons (pv 0) (pa_cons (pe_glob (v := .ref A.c_Form) rfl T.m_Form rfl) pa_nil))))) (pss_one (ps_ret pe_bl)) pss_nil)
            (pss_one ps_never)), ?_⟩
      try dsimp only [L2.cxOf, L2.Cx.nox, L2.Cx.wish]
      with_reducible refine Rd.seq (Rd.ifS (Rd.not (Rd.tb (Rd.cB (Rd.cons (Rd.var (by walk_at "vr") (Rd.cons (Rd.c (Rd.nil ?_)))))))))
      refine ⟨_, _, _, _, _, rfl, (by walk_at "clsv"), (by walk_at "tyx"), (by walk_at "kit"), ?_⟩
      with_reducible refine Rd.bl (Rd.iteT (by first | with_unfolding_all rfl | walk_at "bT") (Rd.ret (Rd.c (Rd.bl (Rd.iteF (by first | with_unfolding_all rfl | walk_at "bF") (Rd.call (Rd.cons (Rd.var (by walk_at "vr") (Rd.cons (Rd.c (Rd.cons ?_)))))))))))
      with_reducible refine Rd.c (Rd.nil ?_)
      refine ⟨_, _, _, rfl, (by walk_at "sc"), (by walk_at "sc"), ?_⟩
      with_reducible refine Rd.bl (Rd.iteF (by walk_at "bF") (Rd.next (Rd.ifS (Rd.and (Rd.test (Rd.op (Rd.var (by walk_at "vr") (Rd.c (Rd.eqS (by walk_at "vr") (Rd.bl (Rd.iteF (by first | with_unfolding_all rfl | walk_at "bF") ?_)))))))))))
      with_reducible refine Rd.iteF rfl (Rd.next ?_)
      refine ⟨by walk_at "hpt", ?_⟩
      refine Rd.unrTCons ?_
      with_reducible refine Rd.name ?_
      dsimp only [List.set]
      with_reducible refine Rd.seq (Rd.ifS (Rd.not (Rd.tb (Rd.call (Rd.cons (Rd.var (by walk_at "vr") (Rd.cons (Rd.dget (Rd.var (by walk_at "vr") (Rd.var (by walk_at "vr") ?_))))))))))
      refine Rd.dget2 (by walk_at "hp") (by walk_at "dl") ?_
      with_reducible refine Rd.nil ?_
      refine in_is_part (fun cdv Ar outer s hr => ?_) rfl
      have hu := hu_of hr
      refine ⟨_, (pss_cons (ps_if (pt_cmpR op_eq (pv 0) pe_str (nomark _)) (pss_one ps_never) pss_nil)
            (pss_cons (ps_if (pt_cmpR op_eq (pv 0) pe_str (nomark _)) (pss_one ps_never) pss_nil)
            (pss_one (ps_ret (pe_call (ok_is_word_of T) (hr.mono (by decide)) (by rfl) T.m_is_word_of T.F_is_word_of.kp T.b_is_word_of .nil pass0 (pa_cons (pv 1) (pa_cons (pe_ix ix_kdict (pe_glob (v := .ref A.t_PART_WORDS) rfl T.m_PART_WORDS rfl) (pv 0) (fun _ _ => rfl)) pa_nil))))))), ?_⟩
      try dsimp only [L2.cxOf, L2.Cx.nox, L2.Cx.wish]
      with_reducible refine Rd.seq (Rd.ifS (Rd.test (Rd.op (Rd.var (by walk_at "vr") (Rd.c (Rd.eqS (by walk_at "vr") (Rd.bl (Rd.iteF (by first | with_unfolding_all rfl | walk_at "bF") (Rd.next (Rd.seq (Rd.ifS ?_)))))))))))
      with_reducible refine Rd.test (Rd.op (Rd.var (by walk_at "vr") (Rd.c (Rd.eqS (by walk_at "vr") (Rd.bl (Rd.iteF (by first | with_unfolding_all rfl | walk_at "bF") (Rd.next (Rd.ret (Rd.call (Rd.cons (Rd.var (by walk_at "vr") ?_)))))))))))
      with_reducible refine Rd.cons (Rd.op (Rd.c (Rd.var (by walk_at "vr") ?_)))
      refine ⟨_, _, _, rfl, rfl, T.d_PART_WORDS_slot, ?_⟩
      with_reducible refine Rd.nil ?_
      refine in_is_word_of (fun cdv Ar outer s hr => ?_) rfl
      have hu := hu_of hr
      refine ⟨_, (pss_one (ps_ret (pe_and (pe_callB (Rd.isi (K := K) rfl) (by rfl) T.n_isinstance (by decide +kernel) (pa_cons (pv 0) (pa_cons (pe_bltn (v := .ty "str") (u := .type "str") (by rfl) T.n_str (by decide +kernel) rfl) pa_nil))) (pe_one (pe_cmpR op_in_seq (pv 0) (pv 1) (by with_unfolding_all rfl)))))), ?_⟩
      try dsimp only [L2.cxOf, L2.Cx.nox, L2.Cx.wish]
      with_reducible refine Rd.ret (Rd.andV (Rd.cB (Rd.cons (Rd.var (by walk_at "vr") (Rd.cons (Rd.c (Rd.nil ?_)))))))
      refine ⟨_, _, _, _, _, rfl, (by walk_at "clsv"), (by walk_at "tyx"), (by walk_at "kit"), ?_⟩
      with_reducible refine Rd.bl (Rd.iteT (by first | with_unfolding_all rfl | walk_at "bT") (Rd.op (Rd.var (by walk_at "vr") (Rd.var (by walk_at "vr") ?_))))
      refine Rd.inT (.inr (by walk_at "hpt")) rfl (by walk_at "flt") ?_
      with_reducible refine Rd.bl (Rd.iteF (by walk_at "bF") (Rd.next (Rd.ifS (Rd.and (Rd.test (Rd.op (Rd.var (by walk_at "vr") (Rd.c (Rd.eqS (by walk_at "vr") (Rd.bl (Rd.iteT (by first | with_unfolding_all rfl | walk_at "bT") ?_)))))))))))
      with_reducible refine Rd.and (Rd.test (Rd.op (Rd.dget (Rd.var (by walk_at "vr") (Rd.c ?_)))))
      refine Rd.dget2 (by walk_at "hp") (by walk_at "dl") ?_
      with_reducible refine Rd.c (Rd.eqS (by walk_at "vr") (Rd.bl (Rd.iteF (by walk_at "bF") (Rd.iteF rfl (Rd.next ?_)))))
      refine ⟨by walk_at "hpt", ?_⟩
      refine Rd.unrTCons ?_
      with_reducible refine Rd.name ?_
      dsimp only [List.set]
      with_reducible refine Rd.seq (Rd.ifS (Rd.not (Rd.tb (Rd.call (Rd.cons (Rd.var (by walk_at "vr") (Rd.cons (Rd.dget (Rd.var (by walk_at "vr") (Rd.var (by walk_at "vr") ?_))))))))))
      refine Rd.dget2 (by walk_at "hp") (by walk_at "dl") ?_
      with_reducible refine Rd.nil ?_
      refine in_is_part (fun cdv Ar outer s hr => ?_) rfl
      have hu := hu_of hr
      refine ⟨_, (pss_cons (ps_if (pt_cmpR op_eq (pv 0) pe_str (nomark _)) (pss_one ps_never) pss_nil)
            (pss_cons (ps_if (pt_cmpR op_eq (pv 0) pe_str (nomark _)) (pss_one ps_never) pss_nil)
            (pss_one (ps_ret (pe_call (ok_is_word_of T) (hr.mono (by decide)) (by rfl) T.m_is_word_of T.F_is_word_of.kp T.b_is_word_of .nil pass0 (pa_cons (pv 1) (pa_cons (pe_ix ix_kdict (pe_glob (v := .ref A.t_PART_WORDS) rfl T.m_PART_WORDS rfl) (pv 0) (fun _ _ => rfl)) pa_nil))))))), ?_⟩
      try dsimp only [L2.cxOf, L2.Cx.nox, L2.Cx.wish]
      with_reducible refine Rd.seq (Rd.ifS (Rd.test (Rd.op (Rd.var (by walk_at "vr") (Rd.c (Rd.eqS (by walk_at "vr") (Rd.bl (Rd.iteF (by first | with_unfolding_all rfl | walk_at "bF") (Rd.next (Rd.seq (Rd.ifS ?_)))))))))))
      with_reducible refine Rd.test (Rd.op (Rd.var (by walk_at "vr") (Rd.c (Rd.eqS (by walk_at "vr") (Rd.bl (Rd.iteF (by first | with_unfolding_all rfl | walk_at "bF") (Rd.next (Rd.ret (Rd.call (Rd.cons (Rd.var (by walk_at "vr") ?_)))))))))))
      with_reducible refine Rd.cons (Rd.op (Rd.c (Rd.var (by walk_at "vr") ?_)))
      refine ⟨_, _, _, rfl, rfl, T.d_PART_WORDS_empty, ?_⟩
      with_reducible refine Rd.nil ?_
      refine in_is_word_of (fun cdv Ar outer s hr => ?_) rfl
      have hu := hu_of hr
      refine ⟨_, (pss_one (ps_ret (pe_and (pe_callB (Rd.isi (K := K) rfl) (by rfl) T.n_isinstance (by decide +kernel) (pa_cons (pv 0) (pa_cons (pe_bltn (v := .ty "str") (u := .type "str") (by rfl) T.n_str (by decide +kernel) rfl) pa_nil))) (pe_one (pe_cmpR op_in_seq (pv 0) (pv 1) (by with_unfolding_all rfl)))))), ?_⟩
      try dsimp only [L2.cxOf, L2.Cx.nox, L2.Cx.wish]
      with_reducible refine Rd.ret (Rd.andV (Rd.cB (Rd.cons (Rd.var (by walk_at "vr") (Rd.cons (Rd.c (Rd.nil ?_)))))))
      refine ⟨_, _, _, _, _, rfl, (by walk_at "clsv"), (by walk_at "tyx"), (by walk_at "kit"), ?_⟩
      with_reducible refine Rd.bl (Rd.iteT (by first | with_unfolding_all rfl | walk_at "bT") (Rd.op (Rd.var (by walk_at "vr") (Rd.var (by walk_at "vr") ?_))))
      refine Rd.inT (.inr (by walk_at "hpt")) rfl (by walk_at "flt") ?_
      with_reducible refine Rd.bl (Rd.iteF (by walk_at "bF") (Rd.next (Rd.ifS (Rd.and (Rd.test (Rd.op (Rd.var (by walk_at "vr") (Rd.c (Rd.eqS (by walk_at "vr") (Rd.bl (Rd.iteF (by first | with_unfolding_all rfl | walk_at "bF") ?_)))))))))))
      with_reducible refine Rd.iteF rfl (Rd.next ?_)
      refine ⟨by walk_at "hpt", ?_⟩
      refine Rd.unrTCons ?_
      with_reducible refine Rd.name ?_
      dsimp only [List.set]
      with_reducible refine Rd.seq (Rd.ifS (Rd.not (Rd.tb (Rd.call (Rd.cons (Rd.var (by walk_at "vr") (Rd.cons (Rd.dget (Rd.var (by walk_at "vr") (Rd.var (by walk_at "vr") ?_))))))))))
      refine Rd.dget2 (by walk_at "hp") (by walk_at "dl") ?_
      with_reducible refine Rd.nil ?_
      refine in_is_part (fun cdv Ar outer s hr => ?_) rfl
      have hu := hu_of hr
      refine ⟨_, (pss_cons (ps_if (pt_cmpR op_eq (pv 0) pe_str (nomark _)) (pss_one ps_never) pss_nil)
            (pss_cons (ps_if (pt_cmpR op_eq (pv 0) pe_str (nomark _)) (pss_one (ps_ret (pe_call (ok_is_full T) (hr.mono (by decide)) (by rfl) T.m_is_full T.F_is_full.kp T.b_is_full .nil pass0 (pa_cons (pv 1) pa_nil)))) pss_nil)
            (pss_one ps_never))), ?_⟩
      try dsimp only [L2.cxOf, L2.Cx.nox, L2.Cx.wish]
      with_reducible refine Rd.seq (Rd.ifS (Rd.test (Rd.op (Rd.var (by walk_at "vr") (Rd.c (Rd.eqS (by walk_at "vr") (Rd.bl (Rd.iteF (by first | with_unfolding_all rfl | walk_at "bF") (Rd.next (Rd.seq (Rd.ifS ?_)))))))))))
      with_reducible refine Rd.test (Rd.op (Rd.var (by walk_at "vr") (Rd.c (Rd.eqS (by walk_at "vr") (Rd.bl (Rd.iteT (by first | with_unfolding_all rfl | walk_at "bT") (Rd.ret (Rd.call (Rd.cons (Rd.var (by walk_at "vr") (Rd.nil ?_)))))))))))
      refine in_is_full (fun cdv Ar outer s hr => ?_) rfl
      have hu := hu_of hr
      refine ⟨_, (pss_cons (ps_if (pt_not (pt_val (pe_callB (Rd.isi (K := K) rfl) (by rfl) T.n_isinstance (by decide +kernel) (pa_cons (pv 0) (pa_cons (pe_bltn (v := .ty "tuple") (u := .type "tuple") (by rfl) T.n_tuple (by decide +kernel) rfl) pa_nil))))) (pss_one ps_never) pss_nil)
            (pss_cons (ps_if (pt_cmpR op_eq (pe_callB call_len_seq (by rfl) T.n_len PySem.boot_len (pa_cons (pv 0) pa_nil)) pe_int (nomark _)) (pss_one (ps_ret (pe_call (ok_is_word_of T) (hr.mono (by decide)) (by rfl) T.m_is_word_of T.F_is_word_of.kp T.b_is_word_of .nil pass0 (pa_cons (pe_ix (Rd.ixTK rfl) (pv 0) pe_int (fun _ _ => rfl)) (pa_cons (pe_glob (v := .ref A.t_PLAIN_FULLS) rfl T.m_PLAIN_FULLS rfl) pa_nil))))) pss_nil)
            (pss_cons ps_never (pss_one ps_never)))), ?_⟩
      try dsimp only [L2.cxOf, L2.Cx.nox, L2.Cx.wish]
      with_reducible refine Rd.seq (Rd.ifS (Rd.not (Rd.tb (Rd.cB (Rd.cons (Rd.var (by walk_at "vr") (Rd.cons (Rd.c (Rd.nil ?_)))))))))
      refine ⟨_, _, _, _, _, rfl, (by walk_at "clsv"), (by walk_at "tyx"), (by walk_at "kit"), ?_⟩
      with_reducible refine Rd.bl (Rd.iteF (by first | with_unfolding_all rfl | walk_at "bF") (Rd.next (Rd.seq (Rd.ifS (Rd.test (Rd.op (Rd.cB (Rd.cons (Rd.var (by walk_at "vr") (Rd.nil (⟨_, _, rfl, (by walk_at "hpq"), ?_⟩)))))))))))
      with_reducible refine Rd.c (Rd.eqS (by walk_at "vr") (Rd.bl (Rd.iteT (by first | with_unfolding_all rfl | walk_at "bT") (Rd.ret (Rd.call (Rd.cons (Rd.op (Rd.var (by walk_at "vr") (Rd.c (Rd.ixT (by walk_at "hpt") (by walk_at "vr") (Rd.cons ?_)))))))))))
      with_reducible refine Rd.c (Rd.nil ?_)
      refine in_is_word_of (fun cdv Ar outer s hr => ?_) rfl
      have hu := hu_of hr
      refine ⟨_, (pss_one (ps_ret (pe_and (pe_callB (Rd.isi (K := K) rfl) (by rfl) T.n_isinstance (by decide +kernel) (pa_cons (pv 0) (pa_cons (pe_bltn (v := .ty "str") (u := .type "str") (by rfl) T.n_str (by decide +kernel) rfl) pa_nil))) (pe_one (pe_cmpR op_in_seq (pv 0) (pv 1) (by with_unfolding_all rfl)))))), ?_⟩
      try dsimp only [L2.cxOf, L2.Cx.nox, L2.Cx.wish]
      with_reducible refine Rd.ret (Rd.andV (Rd.cB (Rd.cons (Rd.var (by walk_at "vr") (Rd.cons (Rd.c (Rd.nil ?_)))))))
      refine ⟨_, _, _, _, _, rfl, (by walk_at "clsv"), (by walk_at "tyx"), (by walk_at "kit"), ?_⟩
      with_reducible refine Rd.bl (Rd.iteT (by first | with_unfolding_all rfl | walk_at "bT") (Rd.op (Rd.var (by walk_at "vr") (Rd.var (by walk_at "vr") ?_))))
      refine Rd.inT (.inr (by walk_at "hpt")) rfl (by walk_at "flt") ?_
      with_reducible refine Rd.bl (Rd.iteF (by walk_at "bF") (Rd.next (Rd.ifS (Rd.and (Rd.test (Rd.op (Rd.var (by walk_at "vr") (Rd.c (Rd.eqS (by walk_at "vr") (Rd.bl (Rd.iteF (by first | with_unfolding_all rfl | walk_at "bF") ?_)))))))))))
      with_reducible refine Rd.iteF rfl (Rd.next ?_)
      refine ⟨by walk_at "hpt", ?_⟩
      refine Rd.unrTCons ?_
      with_reducible refine Rd.name ?_
      dsimp only [List.set]
      with_reducible refine Rd.seq (Rd.ifS (Rd.not (Rd.tb (Rd.call (Rd.cons (Rd.var (by walk_at "vr") (Rd.cons (Rd.dget (Rd.var (by walk_at "vr") (Rd.var (by walk_at "vr") ?_))))))))))
      refine Rd.dget2 (by walk_at "hp") (by walk_at "dl") ?_
      with_reducible refine Rd.nil ?_
      refine in_is_part (fun cdv Ar outer s hr => ?_) rfl
      have hu := hu_of hr
      refine ⟨_, (pss_cons (ps_if (pt_cmpR op_eq (pv 0) pe_str (nomark _)) (pss_one ps_never) pss_nil)
            (pss_cons (ps_if (pt_cmpR op_eq (pv 0) pe_str (nomark _)) (pss_one ps_never) pss_nil)
            (pss_one (ps_ret (pe_call (ok_is_word_of T) (hr.mono (by decide)) (by rfl) T.m_is_word_of T.F_is_word_of.kp T.b_is_word_of .nil pass0 (pa_cons (pv 1) (pa_cons (pe_ix ix_kdict (pe_glob (v := .ref A.t_PART_WORDS) rfl T.m_PART_WORDS rfl) (pv 0) (fun _ _ => rfl)) pa_nil))))))), ?_⟩
      try dsimp only [L2.cxOf, L2.Cx.nox, L2.Cx.wish]
      with_reducible refine Rd.seq (Rd.ifS (Rd.test (Rd.op (Rd.var (by walk_at "vr") (Rd.c (Rd.eqS (by walk_at "vr") (Rd.bl (Rd.iteF (by first | with_unfolding_all rfl | walk_at "bF") (Rd.next (Rd.seq (Rd.ifS ?_)))))))))))
      with_reducible refine Rd.test (Rd.op (Rd.var (by walk_at "vr") (Rd.c (Rd.eqS (by walk_at "vr") (Rd.bl (Rd.iteF (by first | with_unfolding_all rfl | walk_at "bF") (Rd.next (Rd.ret (Rd.call (Rd.cons (Rd.var (by walk_at "vr") ?_)))))))))))
      with_reducible refine Rd.cons (Rd.op (Rd.c (Rd.var (by walk_at "vr") ?_)))
      refine ⟨_, _, _, rfl, rfl, T.d_PART_WORDS_when, ?_⟩
      with_reducible refine Rd.nil ?_
      refine in_is_word_of (fun cdv Ar outer s hr => ?_) rfl
      have hu := hu_of hr
      refine ⟨_, (pss_one (ps_ret (pe_and (pe_callB (Rd.isi (K := K) rfl) (by rfl) T.n_isinstance (by decide +kernel) (pa_cons (pv 0) (pa_cons (pe_bltn (v := .ty "str") (u := .type "str") (by rfl) T.n_str (by decide +kernel) rfl) pa_nil))) (pe_one (pe_cmpR op_in_seq (pv 0) (pv 1) (by with_unfolding_all rfl)))))), ?_⟩
      try dsimp only [L2.cxOf, L2.Cx.nox, L2.Cx.wish]
      with_reducible refine Rd.ret (Rd.andV (Rd.cB (Rd.cons (Rd.var (by walk_at "vr") (Rd.cons (Rd.c (Rd.nil ?_)))))))
      refine ⟨_, _, _, _, _, rfl, (by walk_at "clsv"), (by walk_at "tyx"), (by walk_at "kit"), ?_⟩
      with_reducible refine Rd.bl (Rd.iteT (by first | with_unfolding_all rfl | walk_at "bT") (Rd.op (Rd.var (by walk_at "vr") (Rd.var (by walk_at "vr") ?_))))
      refine Rd.inT (.inr (by walk_at "hpt")) rfl (by walk_at "flt") ?_
      with_reducible refine Rd.bl (Rd.iteF (by walk_at "bF") (Rd.next (Rd.ifS (Rd.and (Rd.test (Rd.op (Rd.var (by walk_at "vr") (Rd.c (Rd.eqS (by walk_at "vr") (Rd.bl (Rd.iteF (by first | with_unfolding_all rfl | walk_at "bF") ?_)))))))))))
      with_reducible refine Rd.iteF rfl (Rd.next ?_)
      refine ⟨by walk_at "hpt", ?_⟩
      refine Rd.unrTNil ?_
      with_reducible refine Rd.ret (Rd.c (Rd.name (Rd.seq (Rd.ifS (Rd.test (Rd.op (Rd.var (by walk_at "vr") (Rd.c (⟨rfl, (Rd.bl (Rd.iteF (by first | with_unfolding_all rfl | walk_at "bF") ?_))⟩)))))))))
      with_reducible refine Rd.next (Rd.sfld (Rd.var (by walk_at "vr") (Rd.var (by walk_at "vr") (⟨_, _, _, _, rfl, (by walk_at "hp"), T.k_Scheme, T.n_Scheme_parts, (by walk_at "sfl"), ?_⟩))))
      rw [fS_put]
      exact k _ _ (by walk_at "frm") (by assumption) L2.upd_same (by walk_at "hp")
    · have hw : vw = .int w := hw
      subst hw
      have w1 : 1 ≤ w ∧ w ≤ 100 := w1
      obtain ⟨pf, qf, dqf, rfl, hpf, hqf⟩ := hf
      obtain ⟨f1, f2, f3⟩ := w4
      have i4 : inV (.str kk) [.str "diff", .str "count"] = true := Rd.inW (ws := ["diff", "count"]) f1
      have i5 : inV (.str g) [.str "=", .str ">="] = true := Rd.inW (ws := ["=", ">="]) f2
      have i2 : (!inV (.str sl) [.str "rest", .str "off", .str "mask"]) = false := Rd.notF (Rd.inW (ws := ["rest", "off", "mask"]) w2)
      have i3 : (!inV (.str em) [.str "same", .str "count", .str "note"]) = false := Rd.notF (Rd.inW (ws := ["same", "count", "note"]) w3)
      have i6 : (!inV (.str wn) [.str "refuse", .str "drop", .str "over"]) = false := Rd.notF (Rd.inW (ws := ["refuse", "drop", "over"]) w5)
      have m1 : decide (V.str sl = V.str "mask") = true := decide_eq_true (by rw [hm])
      refine ⟨_, (pss_cons (ps_set (i := 6) sc_Schemeu__initu_.nd rfl (Or.inl rfl) (pe_disp (pps_cons pe_str (pv 1) (pps_cons pe_str (pv 2) (pps_cons pe_str (pv 3) (pps_cons pe_str (pv 4) (pps_cons pe_str (pv 5) pps_nil))))) rfl rfl (by simp) (by decide)))
      (pss_cons (ps_set (i := 7) sc_Schemeu__initu_.nd rfl (Or.inl rfl) (pe_call (ok_first_wrong T) (hr.mono (by decide)) (by rfl) T.m_first_wrong T.F_first_wrong.kp T.b_first_wrong .nil pass0 (pa_cons (pv 6) pa_nil)))
      (pss_cons (ps_if (pt_cmpR op_notN (pv 7) pe_non (nomark _)) (pss_one ps_never) pss_nil)
      (pss_one (ps_fld (pv 0) (pv 6) rfl))))), ?_⟩
      try dsimp only [L2.cxOf, L2.Cx.nox, L2.Cx.wish]
      with_reducible refine Rd.seq (Rd.asg ?_)
      refine Rd.disp5 (fun _ _ h => Rd.var (by walk_at "vr") h) (fun _ _ h => Rd.var (by walk_at "vr") h) (fun _ _ h => Rd.var (by walk_at "vr") h) (fun _ _ h => Rd.var (by walk_at "vr") h) (fun _ _ h => Rd.var (by walk_at "vr") h) ?_
      intro pd245_16 npd245_16
      rw [kvP_merge]
      with_reducible refine Rd.name (Rd.seq (Rd.asg (Rd.call (Rd.cons (Rd.var (by walk_at "vr") (Rd.nil ?_))))))
      refine in_first_wrong (fun cdv Ar outer s hr => ?_) rfl
      have hu := hu_of hr
      refine ⟨_, (pss_cons (ps_for PassesOwn.never rfl (pi_tup (pe_glob (v := .ref A.t_PART_NAMES) rfl T.m_PART_NAMES rfl)) (pg_name (i := 1) sc_first_wrong.nd rfl (Or.inl rfl)) (pss_cons (ps_if (pt_not (pt_val (pe_call (ok_is_part T) (hr.mono (by decide)) (by rfl) T.m_is_part T.F_is_part.kp T.b_is_part .nil pass0 (pa_cons (pv 1) (pa_cons (pe_dget hu (pv 0) (pv 1) (fun _ _ => rfl)) pa_nil))))) (pss_one ps_never) pss_nil) (pss_one (ps_if (PW.pt (pw_and (pt_cmpR op_eq (pv 1) pe_str (nomark _)) (pw_and (pt_cmpR op_eq (pe_dget hu (pv 0) pe_str (fun _ _ => rfl)) pe_str (nomark _)) (pw_and1 (pt_val (pe_callB (Rd.isi (K := K) rfl) (by rfl) T.n_isinstance (by decide +kernel) (pa_cons (pe_dget hu (pv 0) pe_str (fun _ _ => rfl)) (pa_cons (pe_glob (v := .ref A.c_Form) rfl T.m_Form rfl) pa_nil)))))))) (pss_one ps_never) pss_nil))))
            (pss_one (ps_ret pe_non))), ?_⟩
      try dsimp only [L2.cxOf, L2.Cx.nox, L2.Cx.wish]
      with_reducible refine Rd.seq (Rd.fr (Rd.it (Rd.c (⟨_, rfl, ?_⟩))))
      refine Rd.unrollT (by walk_at "hpt") ?_
      refine Rd.unrTCons ?_
      with_reducible refine Rd.name ?_
      dsimp only [List.set]
      with_reducible refine Rd.seq (Rd.ifS (Rd.not (Rd.tb (Rd.call (Rd.cons (Rd.var (by walk_at "vr") (Rd.cons (Rd.dget (Rd.var (by walk_at "vr") (Rd.var (by walk_at "vr") ?_))))))))))
      refine Rd.dget2 (by walk_at "hp") (by walk_at "dl") ?_
      with_reducible refine Rd.nil ?_
      refine in_is_part (fun cdv Ar outer s hr => ?_) rfl
      have hu := hu_of hr
      refine ⟨_, (pss_cons (ps_if (pt_cmpR op_eq (pv 0) pe_str (nomark _)) (pss_one (ps_ret (pe_call (ok_is_wrap T) (hr.mono (by decide)) (by rfl) T.m_is_wrap T.F_is_wrap.kp T.b_is_wrap .nil pass0 (pa_cons (pv 1) pa_nil)))) pss_nil)
            (pss_cons ps_never (pss_one ps_never))), ?_⟩
      try dsimp only [L2.cxOf, L2.Cx.nox, L2.Cx.wish]
      with_reducible refine Rd.seq (Rd.ifS (Rd.test (Rd.op (Rd.var (by walk_at "vr") (Rd.c (Rd.eqS (by walk_at "vr") (Rd.bl (Rd.iteT (by first | with_unfolding_all rfl | walk_at "bT") (Rd.ret (Rd.call (Rd.cons ?_)))))))))))
      with_reducible refine Rd.var (by walk_at "vr") (Rd.nil ?_)
      refine in_is_wrap (fun cdv Ar outer s hr => ?_) rfl
      have hu := hu_of hr
      refine ⟨_, (pss_one (ps_ret (pe_or (pe_call (ok_is_small_form T) (hr.mono (by decide)) (by rfl) T.m_is_small_form T.F_is_small_form.kp T.b_is_small_form .nil pass0 (pa_cons (pv 0) pa_nil)) (pe_one (pe_call (ok_is_whole_from T) (hr.mono (by decide)) (by rfl) T.m_is_whole_from T.F_is_whole_from.kp T.b_is_whole_from .nil pass0 (pa_cons (pv 0) (pa_cons pe_int (pa_cons (pe_glob (v := .int (100)) rfl T.m_GREATEST_WIDTH ⟨_, rfl⟩) pa_nil)))))))), ?_⟩
      try dsimp only [L2.cxOf, L2.Cx.nox, L2.Cx.wish]
      with_reducible refine Rd.ret (Rd.orV (Rd.call (Rd.cons (Rd.var (by walk_at "vr") (Rd.nil ?_)))))
      refine in_is_small_form (fun cdv Ar outer s hr => ?_) rfl
      have hu := hu_of hr
      refine ⟨_, (pss_cons (ps_if (pt_not (pt_val (pe_callB (Rd.isi (K := K) rfl) (by rfl) T.n_isinstance (by decide +kernel) (pa_cons (pv 0) (pa_cons (pe_glob (v := .ref A.c_Form) rfl T.m_Form rfl) pa_nil))))) (pss_one (ps_ret pe_bl)) pss_nil)
            (pss_one ps_never)), ?_⟩
      try dsimp only [L2.cxOf, L2.Cx.nox, L2.Cx.wish]
      with_reducible refine Rd.seq (Rd.ifS (Rd.not (Rd.tb (Rd.cB (Rd.cons (Rd.var (by walk_at "vr") (Rd.cons (Rd.c (Rd.nil ?_)))))))))
      refine ⟨_, _, _, _, _, rfl, (by walk_at "clsv"), (by walk_at "tyx"), (by walk_at "kit"), ?_⟩
      with_reducible refine Rd.bl (Rd.iteT (by first | with_unfolding_all rfl | walk_at "bT") (Rd.ret (Rd.c (Rd.bl (Rd.iteF (by first | with_unfolding_all rfl | walk_at "bF") (Rd.call (Rd.cons (Rd.var (by walk_at "vr") (Rd.cons (Rd.c (Rd.cons ?_)))))))))))
      with_reducible refine Rd.c (Rd.nil ?_)
      refine ⟨_, _, _, rfl, (by walk_at "sc"), (by walk_at "sc"), ?_⟩
      with_reducible refine Rd.bl (Rd.iteF (by walk_at "bF") (Rd.next (Rd.ifS (Rd.and (Rd.test (Rd.op (Rd.var (by walk_at "vr") (Rd.c (Rd.eqS (by walk_at "vr") (Rd.bl (Rd.iteF (by first | with_unfolding_all rfl | walk_at "bF") ?_)))))))))))
      with_reducible refine Rd.iteF rfl (Rd.next ?_)
      refine ⟨by walk_at "hpt", ?_⟩
      refine Rd.unrTCons ?_
      with_reducible refine Rd.name ?_
      dsimp only [List.set]
      with_reducible refine Rd.seq (Rd.ifS (Rd.not (Rd.tb (Rd.call (Rd.cons (Rd.var (by walk_at "vr") (Rd.cons (Rd.dget (Rd.var (by walk_at "vr") (Rd.var (by walk_at "vr") ?_))))))))))
      refine Rd.dget2 (by walk_at "hp") (by walk_at "dl") ?_
      with_reducible refine Rd.nil ?_
      refine in_is_part (fun cdv Ar outer s hr => ?_) rfl
      have hu := hu_of hr
      refine ⟨_, (pss_cons (ps_if (pt_cmpR op_eq (pv 0) pe_str (nomark _)) (pss_one ps_never) pss_nil)
            (pss_cons (ps_if (pt_cmpR op_eq (pv 0) pe_str (nomark _)) (pss_one ps_never) pss_nil)
            (pss_one (ps_ret (pe_call (ok_is_word_of T) (hr.mono (by decide)) (by rfl) T.m_is_word_of T.F_is_word_of.kp T.b_is_word_of .nil pass0 (pa_cons (pv 1) (pa_cons (pe_ix ix_kdict (pe_glob (v := .ref A.t_PART_WORDS) rfl T.m_PART_WORDS rfl) (pv 0) (fun _ _ => rfl)) pa_nil))))))), ?_⟩
      try dsimp only [L2.cxOf, L2.Cx.nox, L2.Cx.wish]
      with_reducible refine Rd.seq (Rd.ifS (Rd.test (Rd.op (Rd.var (by walk_at "vr") (Rd.c (Rd.eqS (by walk_at "vr") (Rd.bl (Rd.iteF (by first | with_unfolding_all rfl | walk_at "bF") (Rd.next (Rd.seq (Rd.ifS ?_)))))))))))
      with_reducible refine Rd.test (Rd.op (Rd.var (by walk_at "vr") (Rd.c (Rd.eqS (by walk_at "vr") (Rd.bl (Rd.iteF (by first | with_unfolding_all rfl | walk_at "bF") (Rd.next (Rd.ret (Rd.call (Rd.cons (Rd.var (by walk_at "vr") ?_)))))))))))
      with_reducible refine Rd.cons (Rd.op (Rd.c (Rd.var (by walk_at "vr") ?_)))
      refine ⟨_, _, _, rfl, rfl, T.d_PART_WORDS_slot, ?_⟩
      with_reducible refine Rd.nil ?_
      refine in_is_word_of (fun cdv Ar outer s hr => ?_) rfl
      have hu := hu_of hr
      refine ⟨_, (pss_one (ps_ret (pe_and (pe_callB (Rd.isi (K := K) rfl) (by rfl) T.n_isinstance (by decide +kernel) (pa_cons (pv 0) (pa_cons (pe_bltn (v := .ty "str") (u := .type "str") (by rfl) T.n_str (by decide +kernel) rfl) pa_nil))) (pe_one (pe_cmpR op_in_seq (pv 0) (pv 1) (by with_unfolding_all rfl)))))), ?_⟩
      try dsimp only [L2.cxOf, L2.Cx.nox, L2.Cx.wish]
      with_reducible refine Rd.ret (Rd.andV (Rd.cB (Rd.cons (Rd.var (by walk_at "vr") (Rd.cons (Rd.c (Rd.nil ?_)))))))
      refine ⟨_, _, _, _, _, rfl, (by walk_at "clsv"), (by walk_at "tyx"), (by walk_at "kit"), ?_⟩
      with_reducible refine Rd.bl (Rd.iteT (by first | with_unfolding_all rfl | walk_at "bT") (Rd.op (Rd.var (by walk_at "vr") (Rd.var (by walk_at "vr") ?_))))
      refine Rd.inT (.inr (by walk_at "hpt")) rfl (by walk_at "flt") ?_
      with_reducible refine Rd.bl (Rd.iteF (by walk_at "bF") (Rd.next (Rd.ifS (Rd.and (Rd.test (Rd.op (Rd.var (by walk_at "vr") (Rd.c (Rd.eqS (by walk_at "vr") (Rd.bl (Rd.iteT (by first | with_unfolding_all rfl | walk_at "bT") ?_)))))))))))
      with_reducible refine Rd.and (Rd.test (Rd.op (Rd.dget (Rd.var (by walk_at "vr") (Rd.c ?_)))))
      refine Rd.dget2 (by walk_at "hp") (by walk_at "dl") ?_
      with_reducible refine Rd.c (Rd.eqS (by walk_at "vr") (Rd.bl (Rd.iteT (by walk_at "bT") (Rd.tb (Rd.cB (Rd.cons (Rd.dget (Rd.var (by walk_at "vr") (Rd.c ?_)))))))))
      refine Rd.dget2 (by walk_at "hp") (by walk_at "dl") ?_
      with_reducible refine Rd.cons (Rd.c (Rd.nil ?_))
      refine ⟨_, _, _, _, _, rfl, (by walk_at "clsv"), (by walk_at "tyx"), (by walk_at "kit"), ?_⟩
      with_reducible refine Rd.bl (Rd.iteF (by first | with_unfolding_all rfl | walk_at "bF") (Rd.next ?_))
      refine ⟨by walk_at "hpt", ?_⟩
      refine Rd.unrTCons ?_
      with_reducible refine Rd.name ?_
      dsimp only [List.set]
      with_reducible refine Rd.seq (Rd.ifS (Rd.not (Rd.tb (Rd.call (Rd.cons (Rd.var (by walk_at "vr") (Rd.cons (Rd.dget (Rd.var (by walk_at "vr") (Rd.var (by walk_at "vr") ?_))))))))))
      refine Rd.dget2 (by walk_at "hp") (by walk_at "dl") ?_
      with_reducible refine Rd.nil ?_
      refine in_is_part (fun cdv Ar outer s hr => ?_) rfl
      have hu := hu_of hr
      refine ⟨_, (pss_cons (ps_if (pt_cmpR op_eq (pv 0) pe_str (nomark _)) (pss_one ps_never) pss_nil)
            (pss_cons (ps_if (pt_cmpR op_eq (pv 0) pe_str (nomark _)) (pss_one ps_never) pss_nil)
            (pss_one (ps_ret (pe_call (ok_is_word_of T) (hr.mono (by decide)) (by rfl) T.m_is_word_of T.F_is_word_of.kp T.b_is_word_of .nil pass0 (pa_cons (pv 1) (pa_cons (pe_ix ix_kdict (pe_glob (v := .ref A.t_PART_WORDS) rfl T.m_PART_WORDS rfl) (pv 0) (fun _ _ => rfl)) pa_nil))))))), ?_⟩
      try dsimp only [L2.cxOf, L2.Cx.nox, L2.Cx.wish]
      with_reducible refine Rd.seq (Rd.ifS (Rd.test (Rd.op (Rd.var (by walk_at "vr") (Rd.c (Rd.eqS (by walk_at "vr") (Rd.bl (Rd.iteF (by first | with_unfolding_all rfl | walk_at "bF") (Rd.next (Rd.seq (Rd.ifS ?_)))))))))))
      with_reducible refine Rd.test (Rd.op (Rd.var (by walk_at "vr") (Rd.c (Rd.eqS (by walk_at "vr") (Rd.bl (Rd.iteF (by first | with_unfolding_all rfl | walk_at "bF") (Rd.next (Rd.ret (Rd.call (Rd.cons (Rd.var (by walk_at "vr") ?_)))))))))))
      with_reducible refine Rd.cons (Rd.op (Rd.c (Rd.var (by walk_at "vr") ?_)))
      refine ⟨_, _, _, rfl, rfl, T.d_PART_WORDS_empty, ?_⟩
      with_reducible refine Rd.nil ?_
      refine in_is_word_of (fun cdv Ar outer s hr => ?_) rfl
      have hu := hu_of hr
      refine ⟨_, (pss_one (ps_ret (pe_and (pe_callB (Rd.isi (K := K) rfl) (by rfl) T.n_isinstance (by decide +kernel) (pa_cons (pv 0) (pa_cons (pe_bltn (v := .ty "str") (u := .type "str") (by rfl) T.n_str (by decide +kernel) rfl) pa_nil))) (pe_one (pe_cmpR op_in_seq (pv 0) (pv 1) (by with_unfolding_all rfl)))))), ?_⟩
      try dsimp only [L2.cxOf, L2.Cx.nox, L2.Cx.wish]
      with_reducible refine Rd.ret (Rd.andV (Rd.cB (Rd.cons (Rd.var (by walk_at "vr") (Rd.cons (Rd.c (Rd.nil ?_)))))))
      refine ⟨_, _, _, _, _, rfl, (by walk_at "clsv"), (by walk_at "tyx"), (by walk_at "kit"), ?_⟩
      with_reducible refine Rd.bl (Rd.iteT (by first | with_unfolding_all rfl | walk_at "bT") (Rd.op (Rd.var (by walk_at "vr") (Rd.var (by walk_at "vr") ?_))))
      refine Rd.inT (.inr (by walk_at "hpt")) rfl (by walk_at "flt") ?_
      with_reducible refine Rd.bl (Rd.iteF (by walk_at "bF") (Rd.next (Rd.ifS (Rd.and (Rd.test (Rd.op (Rd.var (by walk_at "vr") (Rd.c (Rd.eqS (by walk_at "vr") (Rd.bl (Rd.iteF (by first | with_unfolding_all rfl | walk_at "bF") ?_)))))))))))
      with_reducible refine Rd.iteF rfl (Rd.next ?_)
      refine ⟨by walk_at "hpt", ?_⟩
      refine Rd.unrTCons ?_
      with_reducible refine Rd.name ?_
      dsimp only [List.set]
      with_reducible refine Rd.seq (Rd.ifS (Rd.not (Rd.tb (Rd.call (Rd.cons (Rd.var (by walk_at "vr") (Rd.cons (Rd.dget (Rd.var (by walk_at "vr") (Rd.var (by walk_at "vr") ?_))))))))))
      refine Rd.dget2 (by walk_at "hp") (by walk_at "dl") ?_
      with_reducible refine Rd.nil ?_
      refine in_is_part (fun cdv Ar outer s hr => ?_) rfl
      have hu := hu_of hr
      refine ⟨_, (pss_cons (ps_if (pt_cmpR op_eq (pv 0) pe_str (nomark _)) (pss_one ps_never) pss_nil)
            (pss_cons (ps_if (pt_cmpR op_eq (pv 0) pe_str (nomark _)) (pss_one (ps_ret (pe_call (ok_is_full T) (hr.mono (by decide)) (by rfl) T.m_is_full T.F_is_full.kp T.b_is_full .nil pass0 (pa_cons (pv 1) pa_nil)))) pss_nil)
            (pss_one ps_never))), ?_⟩
      try dsimp only [L2.cxOf, L2.Cx.nox, L2.Cx.wish]
      with_reducible refine Rd.seq (Rd.ifS (Rd.test (Rd.op (Rd.var (by walk_at "vr") (Rd.c (Rd.eqS (by walk_at "vr") (Rd.bl (Rd.iteF (by first | with_unfolding_all rfl | walk_at "bF") (Rd.next (Rd.seq (Rd.ifS ?_)))))))))))
      with_reducible refine Rd.test (Rd.op (Rd.var (by walk_at "vr") (Rd.c (Rd.eqS (by walk_at "vr") (Rd.bl (Rd.iteT (by first | with_unfolding_all rfl | walk_at "bT") (Rd.ret (Rd.call (Rd.cons (Rd.var (by walk_at "vr") (Rd.nil ?_)))))))))))
      refine in_is_full (fun cdv Ar outer s hr => ?_) rfl
      have hu := hu_of hr
      refine ⟨_, (pss_cons (ps_if (pt_not (pt_val (pe_callB (Rd.isi (K := K) rfl) (by rfl) T.n_isinstance (by decide +kernel) (pa_cons (pv 0) (pa_cons (pe_bltn (v := .ty "tuple") (u := .type "tuple") (by rfl) T.n_tuple (by decide +kernel) rfl) pa_nil))))) (pss_one ps_never) pss_nil)
            (pss_cons (ps_if (pt_cmpR op_eq (pe_callB call_len_seq (by rfl) T.n_len PySem.boot_len (pa_cons (pv 0) pa_nil)) pe_int (nomark _)) (pss_one ps_never) pss_nil)
            (pss_cons (ps_if (pt_cmpR op_ne (pe_callB call_len_seq (by rfl) T.n_len PySem.boot_len (pa_cons (pv 0) pa_nil)) pe_int (nomark _)) (pss_one ps_never) pss_nil)
            (pss_one (ps_ret (pe_and (pe_call (ok_is_word_of T) (hr.mono (by decide)) (by rfl) T.m_is_word_of T.F_is_word_of.kp T.b_is_word_of .nil pass0 (pa_cons (pe_ix (Rd.ixTK rfl) (pv 0) pe_int (fun _ _ => rfl)) (pa_cons (pe_glob (v := .ref A.t_MEASURES) rfl T.m_MEASURES rfl) pa_nil))) (pe_and (pe_call (ok_is_word_of T) (hr.mono (by decide)) (by rfl) T.m_is_word_of T.F_is_word_of.kp T.b_is_word_of .nil pass0 (pa_cons (pe_ix (Rd.ixTK rfl) (pv 0) pe_int (fun _ _ => rfl)) (pa_cons (pe_glob (v := .ref A.t_SIGNS) rfl T.m_SIGNS rfl) pa_nil))) (pe_one (pe_call (ok_is_small_form T) (hr.mono (by decide)) (by rfl) T.m_is_small_form T.F_is_small_form.kp T.b_is_small_form .nil pass0 (pa_cons (pe_ix (Rd.ixTK rfl) (pv 0) pe_int (fun _ _ => rfl)) pa_nil)))))))))), ?_⟩
      try dsimp only [L2.cxOf, L2.Cx.nox, L2.Cx.wish]
      with_reducible refine Rd.seq (Rd.ifS (Rd.not (Rd.tb (Rd.cB (Rd.cons (Rd.var (by walk_at "vr") (Rd.cons (Rd.c (Rd.nil ?_)))))))))
      refine ⟨_, _, _, _, _, rfl, (by walk_at "clsv"), (by walk_at "tyx"), (by walk_at "kit"), ?_⟩
      with_reducible refine Rd.bl (Rd.iteF (by first | with_unfolding_all rfl | walk_at "bF") (Rd.next (Rd.seq (Rd.ifS (Rd.test (Rd.op (Rd.cB (Rd.cons (Rd.var (by walk_at "vr") (Rd.nil (⟨_, _, rfl, (by walk_at "hpq"), ?_⟩)))))))))))
      with_reducible refine Rd.c (Rd.eqS (by walk_at "vr") (Rd.bl (Rd.iteF (by first | with_unfolding_all rfl | walk_at "bF") (Rd.next (Rd.seq (Rd.ifS (Rd.test (Rd.op (Rd.cB (Rd.cons (Rd.var (by walk_at "vr") ?_)))))))))))
      with_reducible refine Rd.nil (⟨_, _, rfl, (by walk_at "hpq"), (Rd.c (Rd.neS (by walk_at "vr") (Rd.bl (Rd.iteF (by first | with_unfolding_all rfl | walk_at "bF") (Rd.next (Rd.ret (Rd.andV (Rd.call (Rd.cons (Rd.op ?_))))))))))⟩)
      with_reducible refine Rd.var (by walk_at "vr") (Rd.c (Rd.ixT (by walk_at "hpt") (by walk_at "vr") (Rd.cons (Rd.c (Rd.nil ?_)))))
      refine in_is_word_of (fun cdv Ar outer s hr => ?_) rfl
      have hu := hu_of hr
      refine ⟨_, (pss_one (ps_ret (pe_and (pe_callB (Rd.isi (K := K) rfl) (by rfl) T.n_isinstance (by decide +kernel) (pa_cons (pv 0) (pa_cons (pe_bltn (v := .ty "str") (u := .type "str") (by rfl) T.n_str (by decide +kernel) rfl) pa_nil))) (pe_one (pe_cmpR op_in_seq (pv 0) (pv 1) (by with_unfolding_all rfl)))))), ?_⟩
      try dsimp only [L2.cxOf, L2.Cx.nox, L2.Cx.wish]
      with_reducible refine Rd.ret (Rd.andV (Rd.cB (Rd.cons (Rd.var (by walk_at "vr") (Rd.cons (Rd.c (Rd.nil ?_)))))))
      refine ⟨_, _, _, _, _, rfl, (by walk_at "clsv"), (by walk_at "tyx"), (by walk_at "kit"), ?_⟩
      with_reducible refine Rd.bl (Rd.iteT (by first | with_unfolding_all rfl | walk_at "bT") (Rd.op (Rd.var (by walk_at "vr") (Rd.var (by walk_at "vr") ?_))))
      refine Rd.inT (.inr (by walk_at "hpt")) rfl (by walk_at "flt") ?_
      with_reducible refine Rd.bl (Rd.iteT (by walk_at "bT") (Rd.andV (Rd.call (Rd.cons (Rd.op (Rd.var (by walk_at "vr") (Rd.c (Rd.ixT (by walk_at "hpt") (by walk_at "vr") (Rd.cons (Rd.c (Rd.nil ?_)))))))))))
      refine in_is_word_of (fun cdv Ar outer s hr => ?_) rfl
      have hu := hu_of hr
      refine ⟨_, (pss_one (ps_ret (pe_and (pe_callB (Rd.isi (K := K) rfl) (by rfl) T.n_isinstance (by decide +kernel) (pa_cons (pv 0) (pa_cons (pe_bltn (v := .ty "str") (u := .type "str") (by rfl) T.n_str (by decide +kernel) rfl) pa_nil))) (pe_one (pe_cmpR op_in_seq (pv 0) (pv 1) (by with_unfolding_all rfl)))))), ?_⟩
      try dsimp only [L2.cxOf, L2.Cx.nox, L2.Cx.wish]
      with_reducible refine Rd.ret (Rd.andV (Rd.cB (Rd.cons (Rd.var (by walk_at "vr") (Rd.cons (Rd.c (Rd.nil ?_)))))))
      refine ⟨_, _, _, _, _, rfl, (by walk_at "clsv"), (by walk_at "tyx"), (by walk_at "kit"), ?_⟩
      with_reducible refine Rd.bl (Rd.iteT (by first | with_unfolding_all rfl | walk_at "bT") (Rd.op (Rd.var (by walk_at "vr") (Rd.var (by walk_at "vr") ?_))))
      refine Rd.inT (.inr (by walk_at "hpt")) rfl (by walk_at "flt") ?_
      with_reducible refine Rd.bl (Rd.iteT (by walk_at "bT") (Rd.call (Rd.cons (Rd.op (Rd.var (by walk_at "vr") (Rd.c (Rd.ixT (by walk_at "hpt") (by walk_at "vr") (Rd.nil ?_))))))))
      refine in_is_small_form (fun cdv Ar outer s hr => ?_) rfl
      have hu := hu_of hr
      refine ⟨_, (pss_cons (ps_if (pt_not (pt_val (pe_callB (Rd.isi (K := K) rfl) (by rfl) T.n_isinstance (by decide +kernel) (pa_cons (pv 0) (pa_cons (pe_glob (v := .ref A.c_Form) rfl T.m_Form rfl) pa_nil))))) (pss_one ps_never) pss_nil)
            (pss_one (ps_ret (pe_and (pe_chain op_le op_le pe_int (pe_fld (pv 0) rfl) (pe_glob (v := .int (4)) rfl T.m_GREATEST_SLOPE ⟨_, rfl⟩)) (pe_one (pe_chain op_le op_le (pe_un un_neg (pe_glob (v := .int (20)) rfl T.m_GREATEST_BASE ⟨_, rfl⟩)) (pe_fld (pv 0) rfl) (pe_glob (v := .int (20)) rfl T.m_GREATEST_BASE ⟨_, rfl⟩))))))), ?_⟩
      try dsimp only [L2.cxOf, L2.Cx.nox, L2.Cx.wish]
      with_reducible refine Rd.seq (Rd.ifS (Rd.not (Rd.tb (Rd.cB (Rd.cons (Rd.var (by walk_at "vr") (Rd.cons (Rd.c (Rd.nil ?_)))))))))
      refine ⟨_, _, _, _, _, rfl, (by walk_at "clsv"), (by walk_at "tyx"), (by walk_at "kit"), ?_⟩
      with_reducible refine Rd.bl (Rd.iteF (by first | with_unfolding_all rfl | walk_at "bF") (Rd.next (Rd.ret (Rd.andV (Rd.chain (Rd.c (Rd.fld (Rd.var (by walk_at "vr") (⟨_, _, _, _, _, rfl, (by walk_at "hp"), T.k_Form, T.n_Form_slope, (by walk_at "lk"), (Rd.i0 (Rd.bl ?_))⟩)))))))))
      with_reducible refine Rd.iteT (by walk_at "bT") (Rd.c (Rd.i0 (Rd.bl (Rd.iteT (by walk_at "bT") (Rd.chain (Rd.un (Rd.c (Rd.iU (Rd.fld (Rd.var (by walk_at "vr") (⟨_, _, _, _, _, rfl, (by walk_at "hp"), T.k_Form, T.n_Form_base, (by walk_at "lk"), ?_⟩)))))))))))
      with_reducible refine Rd.i0 (Rd.bl (Rd.iteT (by walk_at "bT") (Rd.c (Rd.i0 (Rd.bl (Rd.iteF (by walk_at "bF") (Rd.next (Rd.ifS (Rd.and (Rd.test (Rd.op ?_)))))))))))
      with_reducible refine Rd.var (by walk_at "vr") (Rd.c (Rd.eqS (by walk_at "vr") (Rd.bl (Rd.iteF (by first | with_unfolding_all rfl | walk_at "bF") (Rd.iteF rfl (Rd.next ?_))))))
      refine ⟨by walk_at "hpt", ?_⟩
      refine Rd.unrTCons ?_
      with_reducible refine Rd.name ?_
      dsimp only [List.set]
      with_reducible refine Rd.seq (Rd.ifS (Rd.not (Rd.tb (Rd.call (Rd.cons (Rd.var (by walk_at "vr") (Rd.cons (Rd.dget (Rd.var (by walk_at "vr") (Rd.var (by walk_at "vr") ?_))))))))))
      refine Rd.dget2 (by walk_at "hp") (by walk_at "dl") ?_
      with_reducible refine Rd.nil ?_
      refine in_is_part (fun cdv Ar outer s hr => ?_) rfl
      have hu := hu_of hr
      refine ⟨_, (pss_cons (ps_if (pt_cmpR op_eq (pv 0) pe_str (nomark _)) (pss_one ps_never) pss_nil)
            (pss_cons (ps_if (pt_cmpR op_eq (pv 0) pe_str (nomark _)) (pss_one ps_never) pss_nil)
            (pss_one (ps_ret (pe_call (ok_is_word_of T) (hr.mono (by decide)) (by rfl) T.m_is_word_of T.F_is_word_of.kp T.b_is_word_of .nil pass0 (pa_cons (pv 1) (pa_cons (pe_ix ix_kdict (pe_glob (v := .ref A.t_PART_WORDS) rfl T.m_PART_WORDS rfl) (pv 0) (fun _ _ => rfl)) pa_nil))))))), ?_⟩
      try dsimp only [L2.cxOf, L2.Cx.nox, L2.Cx.wish]
      with_reducible refine Rd.seq (Rd.ifS (Rd.test (Rd.op (Rd.var (by walk_at "vr") (Rd.c (Rd.eqS (by walk_at "vr") (Rd.bl (Rd.iteF (by first | with_unfolding_all rfl | walk_at "bF") (Rd.next (Rd.seq (Rd.ifS ?_)))))))))))
      with_reducible refine Rd.test (Rd.op (Rd.var (by walk_at "vr") (Rd.c (Rd.eqS (by walk_at "vr") (Rd.bl (Rd.iteF (by first | with_unfolding_all rfl | walk_at "bF") (Rd.next (Rd.ret (Rd.call (Rd.cons (Rd.var (by walk_at "vr") ?_)))))))))))
      with_reducible refine Rd.cons (Rd.op (Rd.c (Rd.var (by walk_at "vr") ?_)))
      refine ⟨_, _, _, rfl, rfl, T.d_PART_WORDS_when, ?_⟩
      with_reducible refine Rd.nil ?_
      refine in_is_word_of (fun cdv Ar outer s hr => ?_) rfl
      have hu := hu_of hr
      refine ⟨_, (pss_one (ps_ret (pe_and (pe_callB (Rd.isi (K := K) rfl) (by rfl) T.n_isinstance (by decide +kernel) (pa_cons (pv 0) (pa_cons (pe_bltn (v := .ty "str") (u := .type "str") (by rfl) T.n_str (by decide +kernel) rfl) pa_nil))) (pe_one (pe_cmpR op_in_seq (pv 0) (pv 1) (by with_unfolding_all rfl)))))), ?_⟩
      try dsimp only [L2.cxOf, L2.Cx.nox, L2.Cx.wish]
      with_reducible refine Rd.ret (Rd.andV (Rd.cB (Rd.cons (Rd.var (by walk_at "vr") (Rd.cons (Rd.c (Rd.nil ?_)))))))
      refine ⟨_, _, _, _, _, rfl, (by walk_at "clsv"), (by walk_at "tyx"), (by walk_at "kit"), ?_⟩
      with_reducible refine Rd.bl (Rd.iteT (by first | with_unfolding_all rfl | walk_at "bT") (Rd.op (Rd.var (by walk_at "vr") (Rd.var (by walk_at "vr") ?_))))
      refine Rd.inT (.inr (by walk_at "hpt")) rfl (by walk_at "flt") ?_
      with_reducible refine Rd.bl (Rd.iteF (by walk_at "bF") (Rd.next (Rd.ifS (Rd.and (Rd.test (Rd.op (Rd.var (by walk_at "vr") (Rd.c (Rd.eqS (by walk_at "vr") (Rd.bl (Rd.iteF (by first | with_unfolding_all rfl | walk_at "bF") ?_)))))))))))
      with_reducible refine Rd.iteF rfl (Rd.next ?_)
      refine ⟨by walk_at "hpt", ?_⟩
      refine Rd.unrTNil ?_
      with_reducible refine Rd.ret (Rd.c (Rd.name (Rd.seq (Rd.ifS (Rd.test (Rd.op (Rd.var (by walk_at "vr") (Rd.c (⟨rfl, (Rd.bl (Rd.iteF (by first | with_unfolding_all rfl | walk_at "bF") ?_))⟩)))))))))
      with_reducible refine Rd.next (Rd.sfld (Rd.var (by walk_at "vr") (Rd.var (by walk_at "vr") (⟨_, _, _, _, rfl, (by walk_at "hp"), T.k_Scheme, T.n_Scheme_parts, (by walk_at "sfl"), ?_⟩))))
      rw [fS_put]
      exact k _ _ (by walk_at "frm") (by assumption) L2.upd_same (by walk_at "hp")
    · have hw : vw = .int w := hw
      subst hw
      have w1 : 1 ≤ w ∧ w ≤ 100 := w1
      obtain ⟨pf, qf, dqf, rfl, hpf, hqf⟩ := hf
      obtain ⟨f1, f2, f3⟩ := w4
      have i4 : inV (.str kk) [.str "diff", .str "count"] = true := Rd.inW (ws := ["diff", "count"]) f1
      have i5 : inV (.str g) [.str "=", .str ">="] = true := Rd.inW (ws := ["=", ">="]) f2
      have i2 : (!inV (.str sl) [.str "rest", .str "off", .str "mask"]) = false := Rd.notF (Rd.inW (ws := ["rest", "off", "mask"]) w2)
      have i3 : (!inV (.str em) [.str "same", .str "count", .str "note"]) = false := Rd.notF (Rd.inW (ws := ["same", "count", "note"]) w3)
      have i6 : (!inV (.str wn) [.str "refuse", .str "drop", .str "over"]) = false := Rd.notF (Rd.inW (ws := ["refuse", "drop", "over"]) w5)
      have m1 : decide (V.str sl = V.str "mask") = false := nmask hm
      refine ⟨_, (pss_cons (ps_set (i := 6) sc_Schemeu__initu_.nd rfl (Or.inl rfl) (pe_disp (pps_cons pe_str (pv 1) (pps_cons pe_str (pv 2) (pps_cons pe_str (pv 3) (pps_cons pe_str (pv 4) (pps_cons pe_str (pv 5) pps_nil))))) rfl rfl (by simp) (by decide)))
      (pss_cons (ps_set (i := 7) sc_Schemeu__initu_.nd rfl (Or.inl rfl) (pe_call (ok_first_wrong T) (hr.mono (by decide)) (by rfl) T.m_first_wrong T.F_first_wrong.kp T.b_first_wrong .nil pass0 (pa_cons (pv 6) pa_nil)))
      (pss_cons (ps_if (pt_cmpR op_notN (pv 7) pe_non (nomark _)) (pss_one ps_never) pss_nil)
      (pss_one (ps_fld (pv 0) (pv 6) rfl))))), ?_⟩
      try dsimp only [L2.cxOf, L2.Cx.nox, L2.Cx.wish]
      with_reducible refine Rd.seq (Rd.asg ?_)
      refine Rd.disp5 (fun _ _ h => Rd.var (by walk_at "vr") h) (fun _ _ h => Rd.var (by walk_at "vr") h) (fun _ _ h => Rd.var (by walk_at "vr") h) (fun _ _ h => Rd.var (by walk_at "vr") h) (fun _ _ h => Rd.var (by walk_at "vr") h) ?_
      intro pd245_16 npd245_16
      rw [kvP_merge]
      with_reducible refine Rd.name (Rd.seq (Rd.asg (Rd.call (Rd.cons (Rd.var (by walk_at "vr") (Rd.nil ?_))))))
      refine in_first_wrong (fun cdv Ar outer s hr => ?_) rfl
      have hu := hu_of hr
      refine ⟨_, (pss_cons (ps_for PassesOwn.never rfl (pi_tup (pe_glob (v := .ref A.t_PART_NAMES) rfl T.m_PART_NAMES rfl)) (pg_name (i := 1) sc_first_wrong.nd rfl (Or.inl rfl)) (pss_cons (ps_if (pt_not (pt_val (pe_call (ok_is_part T) (hr.mono (by decide)) (by rfl) T.m_is_part T.F_is_part.kp T.b_is_part .nil pass0 (pa_cons (pv 1) (pa_cons (pe_dget hu (pv 0) (pv 1) (fun _ _ => rfl)) pa_nil))))) (pss_one ps_never) pss_nil) (pss_one (ps_if (PW.pt (pw_and (pt_cmpR op_eq (pv 1) pe_str (nomark _)) (pw_and (pt_cmpR op_eq (pe_dget hu (pv 0) pe_str (fun _ _ => rfl)) pe_str (nomark _)) (pw_and1 Rd.ptN)))) (pss_one ps_never) pss_nil))))
            (pss_one (ps_ret pe_non))), ?_⟩
      try dsimp only [L2.cxOf, L2.Cx.nox, L2.Cx.wish]
      with_reducible refine Rd.seq (Rd.fr (Rd.it (Rd.c (⟨_, rfl, ?_⟩))))
      refine Rd.unrollT (by walk_at "hpt") ?_
      refine Rd.unrTCons ?_
      with_reducible refine Rd.name ?_
      dsimp only [List.set]
      with_reducible refine Rd.seq (Rd.ifS (Rd.not (Rd.tb (Rd.call (Rd.cons (Rd.var (by walk_at "vr") (Rd.cons (Rd.dget (Rd.var (by walk_at "vr") (Rd.var (by walk_at "vr") ?_))))))))))
      refine Rd.dget2 (by walk_at "hp") (by walk_at "dl") ?_
      with_reducible refine Rd.nil ?_
      refine in_is_part (fun cdv Ar outer s hr => ?_) rfl
      have hu := hu_of hr
      refine ⟨_, (pss_cons (ps_if (pt_cmpR op_eq (pv 0) pe_str (nomark _)) (pss_one (ps_ret (pe_call (ok_is_wrap T) (hr.mono (by decide)) (by rfl) T.m_is_wrap T.F_is_wrap.kp T.b_is_wrap .nil pass0 (pa_cons (pv 1) pa_nil)))) pss_nil)
            (pss_cons ps_never (pss_one ps_never))), ?_⟩
      try dsimp only [L2.cxOf, L2.Cx.nox, L2.Cx.wish]
      with_reducible refine Rd.seq (Rd.ifS (Rd.test (Rd.op (Rd.var (by walk_at "vr") (Rd.c (Rd.eqS (by walk_at "vr") (Rd.bl (Rd.iteT (by first | with_unfolding_all rfl | walk_at "bT") (Rd.ret (Rd.call (Rd.cons ?_)))))))))))
      with_reducible refine Rd.var (by walk_at "vr") (Rd.nil ?_)
      refine in_is_wrap (fun cdv Ar outer s hr => ?_) rfl
      have hu := hu_of hr
      refine ⟨_, (pss_one (ps_ret (pe_or (pe_call (ok_is_small_form T) (hr.mono (by decide)) (by rfl) T.m_is_small_form T.F_is_small_form.kp T.b_is_small_form .nil pass0 (pa_cons (pv 0) pa_nil)) (pe_one (pe_call (ok_is_whole_from T) (hr.mono (by decide)) (by rfl) T.m_is_whole_from T.F_is_whole_from.kp T.b_is_whole_from .nil pass0 (pa_cons (pv 0) (pa_cons pe_int (pa_cons (pe_glob (v := .int (100)) rfl T.m_GREATEST_WIDTH ⟨_, rfl⟩) pa_nil)))))))), ?_⟩
      try dsimp only [L2.cxOf, L2.Cx.nox, L2.Cx.wish]
      with_reducible refine Rd.ret (Rd.orV (Rd.call (Rd.cons (Rd.var (by walk_at "vr") (Rd.nil ?_)))))
      refine in_is_small_form (fun cdv Ar outer s hr => ?_) rfl
      have hu := hu_of hr
      refine ⟨_, (pss_cons (ps_if (pt_not (pt_val (pe_callB (Rd.isi (K := K) rfl) (by rfl) T.n_isinstance (by decide +kernel) (pa_cons (pv 0) (pa_cons (pe_glob (v := .ref A.c_Form) rfl T.m_Form rfl) pa_nil))))) (pss_one (ps_ret pe_bl)) pss_nil)
            (pss_one ps_never)), ?_⟩
      try dsimp only [L2.cxOf, L2.Cx.nox, L2.Cx.wish]
      with_reducible refine Rd.seq (Rd.ifS (Rd.not (Rd.tb (Rd.cB (Rd.cons (Rd.var (by walk_at "vr") (Rd.cons (Rd.c (Rd.nil ?_)))))))))
      refine ⟨_, _, _, _, _, rfl, (by walk_at "clsv"), (by walk_at "tyx"), (by walk_at "kit"), ?_⟩
      with_reducible refine Rd.bl (Rd.iteT (by first | with_unfolding_all rfl | walk_at "bT") (Rd.ret (Rd.c (Rd.bl (Rd.iteF (by first | with_unfolding_all rfl | walk_at "bF") (Rd.call (Rd.cons (Rd.var (by walk_at "vr") (Rd.cons (Rd.c (Rd.cons ?_)))))))))))
      with_reducible refine Rd.c (Rd.nil ?_)
      refine ⟨_, _, _, rfl, (by walk_at "sc"), (by walk_at "sc"), ?_⟩
      with_reducible refine Rd.bl (Rd.iteF (by walk_at "bF") (Rd.next (Rd.ifS (Rd.and (Rd.test (Rd.op (Rd.var (by walk_at "vr") (Rd.c (Rd.eqS (by walk_at "vr") (Rd.bl (Rd.iteF (by first | with_unfolding_all rfl | walk_at "bF") ?_)))))))))))
      with_reducible refine Rd.iteF rfl (Rd.next ?_)
      refine ⟨by walk_at "hpt", ?_⟩
      refine Rd.unrTCons ?_
      with_reducible refine Rd.name ?_
      dsimp only [List.set]
      with_reducible refine Rd.seq (Rd.ifS (Rd.not (Rd.tb (Rd.call (Rd.cons (Rd.var (by walk_at "vr") (Rd.cons (Rd.dget (Rd.var (by walk_at "vr") (Rd.var (by walk_at "vr") ?_))))))))))
      refine Rd.dget2 (by walk_at "hp") (by walk_at "dl") ?_
      with_reducible refine Rd.nil ?_
      refine in_is_part (fun cdv Ar outer s hr => ?_) rfl
      have hu := hu_of hr
      refine ⟨_, (pss_cons (ps_if (pt_cmpR op_eq (pv 0) pe_str (nomark _)) (pss_one ps_never) pss_nil)
            (pss_cons (ps_if (pt_cmpR op_eq (pv 0) pe_str (nomark _)) (pss_one ps_never) pss_nil)
            (pss_one (ps_ret (pe_call (ok_is_word_of T) (hr.mono (by decide)) (by rfl) T.m_is_word_of T.F_is_word_of.kp T.b_is_word_of .nil pass0 (pa_cons (pv 1) (pa_cons (pe_ix ix_kdict (pe_glob (v := .ref A.t_PART_WORDS) rfl T.m_PART_WORDS rfl) (pv 0) (fun _ _ => rfl)) pa_nil))))))), ?_⟩
      try dsimp only [L2.cxOf, L2.Cx.nox, L2.Cx.wish]
      with_reducible refine Rd.seq (Rd.ifS (Rd.test (Rd.op (Rd.var (by walk_at "vr") (Rd.c (Rd.eqS (by walk_at "vr") (Rd.bl (Rd.iteF (by first | with_unfolding_all rfl | walk_at "bF") (Rd.next (Rd.seq (Rd.ifS ?_)))))))))))
      with_reducible refine Rd.test (Rd.op (Rd.var (by walk_at "vr") (Rd.c (Rd.eqS (by walk_at "vr") (Rd.bl (Rd.iteF (by first | with_unfolding_all rfl | walk_at "bF") (Rd.next (Rd.ret (Rd.call (Rd.cons (Rd.var (by walk_at "vr") ?_)))))))))))
      with_reducible refine Rd.cons (Rd.op (Rd.c (Rd.var (by walk_at "vr") ?_)))
      refine ⟨_, _, _, rfl, rfl, T.d_PART_WORDS_slot, ?_⟩
      with_reducible refine Rd.nil ?_
      refine in_is_word_of (fun cdv Ar outer s hr => ?_) rfl
      have hu := hu_of hr
      refine ⟨_, (pss_one (ps_ret (pe_and (pe_callB (Rd.isi (K := K) rfl) (by rfl) T.n_isinstance (by decide +kernel) (pa_cons (pv 0) (pa_cons (pe_bltn (v := .ty "str") (u := .type "str") (by rfl) T.n_str (by decide +kernel) rfl) pa_nil))) (pe_one (pe_cmpR op_in_seq (pv 0) (pv 1) (by with_unfolding_all rfl)))))), ?_⟩
      try dsimp only [L2.cxOf, L2.Cx.nox, L2.Cx.wish]
      with_reducible refine Rd.ret (Rd.andV (Rd.cB (Rd.cons (Rd.var (by walk_at "vr") (Rd.cons (Rd.c (Rd.nil ?_)))))))
      refine ⟨_, _, _, _, _, rfl, (by walk_at "clsv"), (by walk_at "tyx"), (by walk_at "kit"), ?_⟩
      with_reducible refine Rd.bl (Rd.iteT (by first | with_unfolding_all rfl | walk_at "bT") (Rd.op (Rd.var (by walk_at "vr") (Rd.var (by walk_at "vr") ?_))))
      refine Rd.inT (.inr (by walk_at "hpt")) rfl (by walk_at "flt") ?_
      with_reducible refine Rd.bl (Rd.iteF (by walk_at "bF") (Rd.next (Rd.ifS (Rd.and (Rd.test (Rd.op (Rd.var (by walk_at "vr") (Rd.c (Rd.eqS (by walk_at "vr") (Rd.bl (Rd.iteT (by first | with_unfolding_all rfl | walk_at "bT") ?_)))))))))))
      with_reducible refine Rd.and (Rd.test (Rd.op (Rd.dget (Rd.var (by walk_at "vr") (Rd.c ?_)))))
      refine Rd.dget2 (by walk_at "hp") (by walk_at "dl") ?_
      with_reducible refine Rd.c (Rd.eqS (by walk_at "vr") (Rd.bl (Rd.iteF (by walk_at "bF") (Rd.iteF rfl (Rd.next ?_)))))
      refine ⟨by walk_at "hpt", ?_⟩
      refine Rd.unrTCons ?_
      with_reducible refine Rd.name ?_
      dsimp only [List.set]
      with_reducible refine Rd.seq (Rd.ifS (Rd.not (Rd.tb (Rd.call (Rd.cons (Rd.var (by walk_at "vr") (Rd.cons (Rd.dget (Rd.var (by walk_at "vr") (Rd.var (by walk_at "vr") ?_))))))))))
      refine Rd.dget2 (by walk_at "hp") (by walk_at "dl") ?_
      with_reducible refine Rd.nil ?_
      refine in_is_part (fun cdv Ar outer s hr => ?_) rfl
      have hu := hu_of hr
      refine ⟨_, (pss_cons (ps_if (pt_cmpR op_eq (pv 0) pe_str (nomark _)) (pss_one ps_never) pss_nil)
            (pss_cons (ps_if (pt_cmpR op_eq (pv 0) pe_str (nomark _)) (pss_one ps_never) pss_nil)
            (pss_one (ps_ret (pe_call (ok_is_word_of T) (hr.mono (by decide)) (by rfl) T.m_is_word_of T.F_is_word_of.kp T.b_is_word_of .nil pass0 (pa_cons (pv 1) (pa_cons (pe_ix ix_kdict (pe_glob (v := .ref A.t_PART_WORDS) rfl T.m_PART_WORDS rfl) (pv 0) (fun _ _ => rfl)) pa_nil))))))), ?_⟩
      try dsimp only [L2.cxOf, L2.Cx.nox, L2.Cx.wish]
      with_reducible refine Rd.seq (Rd.ifS (Rd.test (Rd.op (Rd.var (by walk_at "vr") (Rd.c (Rd.eqS (by walk_at "vr") (Rd.bl (Rd.iteF (by first | with_unfolding_all rfl | walk_at "bF") (Rd.next (Rd.seq (Rd.ifS ?_)))))))))))
      with_reducible refine Rd.test (Rd.op (Rd.var (by walk_at "vr") (Rd.c (Rd.eqS (by walk_at "vr") (Rd.bl (Rd.iteF (by first | with_unfolding_all rfl | walk_at "bF") (Rd.next (Rd.ret (Rd.call (Rd.cons (Rd.var (by walk_at "vr") ?_)))))))))))
      with_reducible refine Rd.cons (Rd.op (Rd.c (Rd.var (by walk_at "vr") ?_)))
      refine ⟨_, _, _, rfl, rfl, T.d_PART_WORDS_empty, ?_⟩
      with_reducible refine Rd.nil ?_
      refine in_is_word_of (fun cdv Ar outer s hr => ?_) rfl
      have hu := hu_of hr
      refine ⟨_, (pss_one (ps_ret (pe_and (pe_callB (Rd.isi (K := K) rfl) (by rfl) T.n_isinstance (by decide +kernel) (pa_cons (pv 0) (pa_cons (pe_bltn (v := .ty "str") (u := .type "str") (by rfl) T.n_str (by decide +kernel) rfl) pa_nil))) (pe_one (pe_cmpR op_in_seq (pv 0) (pv 1) (by with_unfolding_all rfl)))))), ?_⟩
      try dsimp only [L2.cxOf, L2.Cx.nox, L2.Cx.wish]
      with_reducible refine Rd.ret (Rd.andV (Rd.cB (Rd.cons (Rd.var (by walk_at "vr") (Rd.cons (Rd.c (Rd.nil ?_)))))))
      refine ⟨_, _, _, _, _, rfl, (by walk_at "clsv"), (by walk_at "tyx"), (by walk_at "kit"), ?_⟩
      with_reducible refine Rd.bl (Rd.iteT (by first | with_unfolding_all rfl | walk_at "bT") (Rd.op (Rd.var (by walk_at "vr") (Rd.var (by walk_at "vr") ?_))))
      refine Rd.inT (.inr (by walk_at "hpt")) rfl (by walk_at "flt") ?_
      with_reducible refine Rd.bl (Rd.iteF (by walk_at "bF") (Rd.next (Rd.ifS (Rd.and (Rd.test (Rd.op (Rd.var (by walk_at "vr") (Rd.c (Rd.eqS (by walk_at "vr") (Rd.bl (Rd.iteF (by first | with_unfolding_all rfl | walk_at "bF") ?_)))))))))))
      with_reducible refine Rd.iteF rfl (Rd.next ?_)
      refine ⟨by walk_at "hpt", ?_⟩
      refine Rd.unrTCons ?_
      with_reducible refine Rd.name ?_
      dsimp only [List.set]
      with_reducible refine Rd.seq (Rd.ifS (Rd.not (Rd.tb (Rd.call (Rd.cons (Rd.var (by walk_at "vr") (Rd.cons (Rd.dget (Rd.var (by walk_at "vr") (Rd.var (by walk_at "vr") ?_))))))))))
      refine Rd.dget2 (by walk_at "hp") (by walk_at "dl") ?_
      with_reducible refine Rd.nil ?_
      refine in_is_part (fun cdv Ar outer s hr => ?_) rfl
      have hu := hu_of hr
      refine ⟨_, (pss_cons (ps_if (pt_cmpR op_eq (pv 0) pe_str (nomark _)) (pss_one ps_never) pss_nil)
            (pss_cons (ps_if (pt_cmpR op_eq (pv 0) pe_str (nomark _)) (pss_one (ps_ret (pe_call (ok_is_full T) (hr.mono (by decide)) (by rfl) T.m_is_full T.F_is_full.kp T.b_is_full .nil pass0 (pa_cons (pv 1) pa_nil)))) pss_nil)
            (pss_one ps_never))), ?_⟩
      try dsimp only [L2.cxOf, L2.Cx.nox, L2.Cx.wish]
      with_reducible refine Rd.seq (Rd.ifS (Rd.test (Rd.op (Rd.var (by walk_at "vr") (Rd.c (Rd.eqS (by walk_at "vr") (Rd.bl (Rd.iteF (by first | with_unfolding_all rfl | walk_at "bF") (Rd.next (Rd.seq (Rd.ifS ?_)))))))))))
      with_reducible refine Rd.test (Rd.op (Rd.var (by walk_at "vr") (Rd.c (Rd.eqS (by walk_at "vr") (Rd.bl (Rd.iteT (by first | with_unfolding_all rfl | walk_at "bT") (Rd.ret (Rd.call (Rd.cons (Rd.var (by walk_at "vr") (Rd.nil ?_)))))))))))
      refine in_is_full (fun cdv Ar outer s hr => ?_) rfl
      have hu := hu_of hr
      refine ⟨_, (pss_cons (ps_if (pt_not (pt_val (pe_callB (Rd.isi (K := K) rfl) (by rfl) T.n_isinstance (by decide +kernel) (pa_cons (pv 0) (pa_cons (pe_bltn (v := .ty "tuple") (u := .type "tuple") (by rfl) T.n_tuple (by decide +kernel) rfl) pa_nil))))) (pss_one ps_never) pss_nil)
            (pss_cons (ps_if (pt_cmpR op_eq (pe_callB call_len_seq (by rfl) T.n_len PySem.boot_len (pa_cons (pv 0) pa_nil)) pe_int (nomark _)) (pss_one ps_never) pss_nil)
            (pss_cons (ps_if (pt_cmpR op_ne (pe_callB call_len_seq (by rfl) T.n_len PySem.boot_len (pa_cons (pv 0) pa_nil)) pe_int (nomark _)) (pss_one ps_never) pss_nil)
            (pss_one (ps_ret (pe_and (pe_call (ok_is_word_of T) (hr.mono (by decide)) (by rfl) T.m_is_word_of T.F_is_word_of.kp T.b_is_word_of .nil pass0 (pa_cons (pe_ix (Rd.ixTK rfl) (pv 0) pe_int (fun _ _ => rfl)) (pa_cons (pe_glob (v := .ref A.t_MEASURES) rfl T.m_MEASURES rfl) pa_nil))) (pe_and (pe_call (ok_is_word_of T) (hr.mono (by decide)) (by rfl) T.m_is_word_of T.F_is_word_of.kp T.b_is_word_of .nil pass0 (pa_cons (pe_ix (Rd.ixTK rfl) (pv 0) pe_int (fun _ _ => rfl)) (pa_cons (pe_glob (v := .ref A.t_SIGNS) rfl T.m_SIGNS rfl) pa_nil))) (pe_one (pe_call (ok_is_small_form T) (hr.mono (by decide)) (by rfl) T.m_is_small_form T.F_is_small_form.kp T.b_is_small_form .nil pass0 (pa_cons (pe_ix (Rd.ixTK rfl) (pv 0) pe_int (fun _ _ => rfl)) pa_nil)))))))))), ?_⟩
      try dsimp only [L2.cxOf, L2.Cx.nox, L2.Cx.wish]
      with_reducible refine Rd.seq (Rd.ifS (Rd.not (Rd.tb (Rd.cB (Rd.cons (Rd.var (by walk_at "vr") (Rd.cons (Rd.c (Rd.nil ?_)))))))))
      refine ⟨_, _, _, _, _, rfl, (by walk_at "clsv"), (by walk_at "tyx"), (by walk_at "kit"), ?_⟩
      with_reducible refine Rd.bl (Rd.iteF (by first | with_unfolding_all rfl | walk_at "bF") (Rd.next (Rd.seq (Rd.ifS (Rd.test (Rd.op (Rd.cB (Rd.cons (Rd.var (by walk_at "vr") (Rd.nil (⟨_, _, rfl, (by walk_at "hpq"), ?_⟩)))))))))))
      with_reducible refine Rd.c (Rd.eqS (by walk_at "vr") (Rd.bl (Rd.iteF (by first | with_unfolding_all rfl | walk_at "bF") (Rd.next (Rd.seq (Rd.ifS (Rd.test (Rd.op (Rd.cB (Rd.cons (Rd.var (by walk_at "vr") ?_)))))))))))
      with_reducible refine Rd.nil (⟨_, _, rfl, (by walk_at "hpq"), (Rd.c (Rd.neS (by walk_at "vr") (Rd.bl (Rd.iteF (by first | with_unfolding_all rfl | walk_at "bF") (Rd.next (Rd.ret (Rd.andV (Rd.call (Rd.cons (Rd.op ?_))))))))))⟩)
      with_reducible refine Rd.var (by walk_at "vr") (Rd.c (Rd.ixT (by walk_at "hpt") (by walk_at "vr") (Rd.cons (Rd.c (Rd.nil ?_)))))
      refine in_is_word_of (fun cdv Ar outer s hr => ?_) rfl
      have hu := hu_of hr
      refine ⟨_, (pss_one (ps_ret (pe_and (pe_callB (Rd.isi (K := K) rfl) (by rfl) T.n_isinstance (by decide +kernel) (pa_cons (pv 0) (pa_cons (pe_bltn (v := .ty "str") (u := .type "str") (by rfl) T.n_str (by decide +kernel) rfl) pa_nil))) (pe_one (pe_cmpR op_in_seq (pv 0) (pv 1) (by with_unfolding_all rfl)))))), ?_⟩
      try dsimp only [L2.cxOf, L2.Cx.nox, L2.Cx.wish]
      with_reducible refine Rd.ret (Rd.andV (Rd.cB (Rd.cons (Rd.var (by walk_at "vr") (Rd.cons (Rd.c (Rd.nil ?_)))))))
      refine ⟨_, _, _, _, _, rfl, (by walk_at "clsv"), (by walk_at "tyx"), (by walk_at "kit"), ?_⟩
      with_reducible refine Rd.bl (Rd.iteT (by first | with_unfolding_all rfl | walk_at "bT") (Rd.op (Rd.var (by walk_at "vr") (Rd.var (by walk_at "vr") ?_))))
      refine Rd.inT (.inr (by walk_at "hpt")) rfl (by walk_at "flt") ?_
      with_reducible refine Rd.bl (Rd.iteT (by walk_at "bT") (Rd.andV (Rd.call (Rd.cons (Rd.op (Rd.var (by walk_at "vr") (Rd.c (Rd.ixT (by walk_at "hpt") (by walk_at "vr") (Rd.cons (Rd.c (Rd.nil ?_)))))))))))
      refine in_is_word_of (fun cdv Ar outer s hr => ?_) rfl
      have hu := hu_of hr
      refine ⟨_, (pss_one (ps_ret (pe_and (pe_callB (Rd.isi (K := K) rfl) (by rfl) T.n_isinstance (by decide +kernel) (pa_cons (pv 0) (pa_cons (pe_bltn (v := .ty "str") (u := .type "str") (by rfl) T.n_str (by decide +kernel) rfl) pa_nil))) (pe_one (pe_cmpR op_in_seq (pv 0) (pv 1) (by with_unfolding_all rfl)))))), ?_⟩
      try dsimp only [L2.cxOf, L2.Cx.nox, L2.Cx.wish]
      with_reducible refine Rd.ret (Rd.andV (Rd.cB (Rd.cons (Rd.var (by walk_at "vr") (Rd.cons (Rd.c (Rd.nil ?_)))))))
      refine ⟨_, _, _, _, _, rfl, (by walk_at "clsv"), (by walk_at "tyx"), (by walk_at "kit"), ?_⟩
      with_reducible refine Rd.bl (Rd.iteT (by first | with_unfolding_all rfl | walk_at "bT") (Rd.op (Rd.var (by walk_at "vr") (Rd.var (by walk_at "vr") ?_))))
      refine Rd.inT (.inr (by walk_at "hpt")) rfl (by walk_at "flt") ?_
      with_reducible refine Rd.bl (Rd.iteT (by walk_at "bT") (Rd.call (Rd.cons (Rd.op (Rd.var (by walk_at "vr") (Rd.c (Rd.ixT (by walk_at "hpt") (by walk_at "vr") (Rd.nil ?_))))))))
      refine in_is_small_form (fun cdv Ar outer s hr => ?_) rfl
      have hu := hu_of hr
      refine ⟨_, (pss_cons (ps_if (pt_not (pt_val (pe_callB (Rd.isi (K := K) rfl) (by rfl) T.n_isinstance (by decide +kernel) (pa_cons (pv 0) (pa_cons (pe_glob (v := .ref A.c_Form) rfl T.m_Form rfl) pa_nil))))) (pss_one ps_never) pss_nil)
            (pss_one (ps_ret (pe_and (pe_chain op_le op_le pe_int (pe_fld (pv 0) rfl) (pe_glob (v := .int (4)) rfl T.m_GREATEST_SLOPE ⟨_, rfl⟩)) (pe_one (pe_chain op_le op_le (pe_un un_neg (pe_glob (v := .int (20)) rfl T.m_GREATEST_BASE ⟨_, rfl⟩)) (pe_fld (pv 0) rfl) (pe_glob (v := .int (20)) rfl T.m_GREATEST_BASE ⟨_, rfl⟩))))))), ?_⟩
      try dsimp only [L2.cxOf, L2.Cx.nox, L2.Cx.wish]
      with_reducible refine Rd.seq (Rd.ifS (Rd.not (Rd.tb (Rd.cB (Rd.cons (Rd.var (by walk_at "vr") (Rd.cons (Rd.c (Rd.nil ?_)))))))))
      refine ⟨_, _, _, _, _, rfl, (by walk_at "clsv"), (by walk_at "tyx"), (by walk_at "kit"), ?_⟩
      with_reducible refine Rd.bl (Rd.iteF (by first | with_unfolding_all rfl | walk_at "bF") (Rd.next (Rd.ret (Rd.andV (Rd.chain (Rd.c (Rd.fld (Rd.var (by walk_at "vr") (⟨_, _, _, _, _, rfl, (by walk_at "hp"), T.k_Form, T.n_Form_slope, (by walk_at "lk"), (Rd.i0 (Rd.bl ?_))⟩)))))))))
      with_reducible refine Rd.iteT (by walk_at "bT") (Rd.c (Rd.i0 (Rd.bl (Rd.iteT (by walk_at "bT") (Rd.chain (Rd.un (Rd.c (Rd.iU (Rd.fld (Rd.var (by walk_at "vr") (⟨_, _, _, _, _, rfl, (by walk_at "hp"), T.k_Form, T.n_Form_base, (by walk_at "lk"), ?_⟩)))))))))))
      with_reducible refine Rd.i0 (Rd.bl (Rd.iteT (by walk_at "bT") (Rd.c (Rd.i0 (Rd.bl (Rd.iteF (by walk_at "bF") (Rd.next (Rd.ifS (Rd.and (Rd.test (Rd.op ?_)))))))))))
      with_reducible refine Rd.var (by walk_at "vr") (Rd.c (Rd.eqS (by walk_at "vr") (Rd.bl (Rd.iteF (by first | with_unfolding_all rfl | walk_at "bF") (Rd.iteF rfl (Rd.next ?_))))))
      refine ⟨by walk_at "hpt", ?_⟩
      refine Rd.unrTCons ?_
      with_reducible refine Rd.name ?_
      dsimp only [List.set]
      with_reducible refine Rd.seq (Rd.ifS (Rd.not (Rd.tb (Rd.call (Rd.cons (Rd.var (by walk_at "vr") (Rd.cons (Rd.dget (Rd.var (by walk_at "vr") (Rd.var (by walk_at "vr") ?_))))))))))
      refine Rd.dget2 (by walk_at "hp") (by walk_at "dl") ?_
      with_reducible refine Rd.nil ?_
      refine in_is_part (fun cdv Ar outer s hr => ?_) rfl
      have hu := hu_of hr
      refine ⟨_, (pss_cons (ps_if (pt_cmpR op_eq (pv 0) pe_str (nomark _)) (pss_one ps_never) pss_nil)
            (pss_cons (ps_if (pt_cmpR op_eq (pv 0) pe_str (nomark _)) (pss_one ps_never) pss_nil)
            (pss_one (ps_ret (pe_call (ok_is_word_of T) (hr.mono (by decide)) (by rfl) T.m_is_word_of T.F_is_word_of.kp T.b_is_word_of .nil pass0 (pa_cons (pv 1) (pa_cons (pe_ix ix_kdict (pe_glob (v := .ref A.t_PART_WORDS) rfl T.m_PART_WORDS rfl) (pv 0) (fun _ _ => rfl)) pa_nil))))))), ?_⟩
      try dsimp only [L2.cxOf, L2.Cx.nox, L2.Cx.wish]
      with_reducible refine Rd.seq (Rd.ifS (Rd.test (Rd.op (Rd.var (by walk_at "vr") (Rd.c (Rd.eqS (by walk_at "vr") (Rd.bl (Rd.iteF (by first | with_unfolding_all rfl | walk_at "bF") (Rd.next (Rd.seq (Rd.ifS ?_)))))))))))
      with_reducible refine Rd.test (Rd.op (Rd.var (by walk_at "vr") (Rd.c (Rd.eqS (by walk_at "vr") (Rd.bl (Rd.iteF (by first | with_unfolding_all rfl | walk_at "bF") (Rd.next (Rd.ret (Rd.call (Rd.cons (Rd.var (by walk_at "vr") ?_)))))))))))
      with_reducible refine Rd.cons (Rd.op (Rd.c (Rd.var (by walk_at "vr") ?_)))
      refine ⟨_, _, _, rfl, rfl, T.d_PART_WORDS_when, ?_⟩
      with_reducible refine Rd.nil ?_
      refine in_is_word_of (fun cdv Ar outer s hr => ?_) rfl
      have hu := hu_of hr
      refine ⟨_, (pss_one (ps_ret (pe_and (pe_callB (Rd.isi (K := K) rfl) (by rfl) T.n_isinstance (by decide +kernel) (pa_cons (pv 0) (pa_cons (pe_bltn (v := .ty "str") (u := .type "str") (by rfl) T.n_str (by decide +kernel) rfl) pa_nil))) (pe_one (pe_cmpR op_in_seq (pv 0) (pv 1) (by with_unfolding_all rfl)))))), ?_⟩
      try dsimp only [L2.cxOf, L2.Cx.nox, L2.Cx.wish]
      with_reducible refine Rd.ret (Rd.andV (Rd.cB (Rd.cons (Rd.var (by walk_at "vr") (Rd.cons (Rd.c (Rd.nil ?_)))))))
      refine ⟨_, _, _, _, _, rfl, (by walk_at "clsv"), (by walk_at "tyx"), (by walk_at "kit"), ?_⟩
      with_reducible refine Rd.bl (Rd.iteT (by first | with_unfolding_all rfl | walk_at "bT") (Rd.op (Rd.var (by walk_at "vr") (Rd.var (by walk_at "vr") ?_))))
      refine Rd.inT (.inr (by walk_at "hpt")) rfl (by walk_at "flt") ?_
      with_reducible refine Rd.bl (Rd.iteF (by walk_at "bF") (Rd.next (Rd.ifS (Rd.and (Rd.test (Rd.op (Rd.var (by walk_at "vr") (Rd.c (Rd.eqS (by walk_at "vr") (Rd.bl (Rd.iteF (by first | with_unfolding_all rfl | walk_at "bF") ?_)))))))))))
      with_reducible refine Rd.iteF rfl (Rd.next ?_)
      refine ⟨by walk_at "hpt", ?_⟩
      refine Rd.unrTNil ?_
      with_reducible refine Rd.ret (Rd.c (Rd.name (Rd.seq (Rd.ifS (Rd.test (Rd.op (Rd.var (by walk_at "vr") (Rd.c (⟨rfl, (Rd.bl (Rd.iteF (by first | with_unfolding_all rfl | walk_at "bF") ?_))⟩)))))))))
      with_reducible refine Rd.next (Rd.sfld (Rd.var (by walk_at "vr") (Rd.var (by walk_at "vr") (⟨_, _, _, _, rfl, (by walk_at "hp"), T.k_Scheme, T.n_Scheme_parts, (by walk_at "sfl"), ?_⟩))))
      rw [fS_put]
      exact k _ _ (by walk_at "frm") (by assumption) L2.upd_same (by walk_at "hp")
    · obtain ⟨pw, dw, rfl, hpw⟩ := hw
      have w1 : 0 ≤ s ∧ s ≤ 4 ∧ -20 ≤ b ∧ b ≤ 20 := w1
      obtain ⟨pf, rfl, hpf⟩ := hf
      have i4 : inV (.str kk) [.str "next", .str "note"] = true := Rd.inW (ws := ["next", "note"]) w4
      have n4 : (!inV (.str kk) [.str "next", .str "note"]) = false := Rd.notF i4
      have i2 : (!inV (.str sl) [.str "rest", .str "off", .str "mask"]) = false := Rd.notF (Rd.inW (ws := ["rest", "off", "mask"]) w2)
      have i3 : (!inV (.str em) [.str "same", .str "count", .str "note"]) = false := Rd.notF (Rd.inW (ws := ["same", "count", "note"]) w3)
      have i6 : (!inV (.str wn) [.str "refuse", .str "drop", .str "over"]) = false := Rd.notF (Rd.inW (ws := ["refuse", "drop", "over"]) w5)
      have m1 : decide (V.str sl = V.str "mask") = false := nmask (w6 _ _ rfl)
      refine ⟨_, (pss_cons (ps_set (i := 6) sc_Schemeu__initu_.nd rfl (Or.inl rfl) (pe_disp (pps_cons pe_str (pv 1) (pps_cons pe_str (pv 2) (pps_cons pe_str (pv 3) (pps_cons pe_str (pv 4) (pps_cons pe_str (pv 5) pps_nil))))) rfl rfl (by simp) (by decide)))
      (pss_cons (ps_set (i := 7) sc_Schemeu__initu_.nd rfl (Or.inl rfl) (pe_call (ok_first_wrong T) (hr.mono (by decide)) (by rfl) T.m_first_wrong T.F_first_wrong.kp T.b_first_wrong .nil pass0 (pa_cons (pv 6) pa_nil)))
      (pss_cons (ps_if (pt_cmpR op_notN (pv 7) pe_non (nomark _)) (pss_one ps_never) pss_nil)
      (pss_one (ps_fld (pv 0) (pv 6) rfl))))), ?_⟩
      try dsimp only [L2.cxOf, L2.Cx.nox, L2.Cx.wish]
      with_reducible refine Rd.seq (Rd.asg ?_)
      refine Rd.disp5 (fun _ _ h => Rd.var (by walk_at "vr") h) (fun _ _ h => Rd.var (by walk_at "vr") h) (fun _ _ h => Rd.var (by walk_at "vr") h) (fun _ _ h => Rd.var (by walk_at "vr") h) (fun _ _ h => Rd.var (by walk_at "vr") h) ?_
      intro pd245_16 npd245_16
      rw [kvP_merge]
      with_reducible refine Rd.name (Rd.seq (Rd.asg (Rd.call (Rd.cons (Rd.var (by walk_at "vr") (Rd.nil ?_))))))
      refine in_first_wrong (fun cdv Ar outer s hr => ?_) rfl
      have hu := hu_of hr
      refine ⟨_, (pss_cons (ps_for PassesOwn.never rfl (pi_tup (pe_glob (v := .ref A.t_PART_NAMES) rfl T.m_PART_NAMES rfl)) (pg_name (i := 1) sc_first_wrong.nd rfl (Or.inl rfl)) (pss_cons (ps_if (pt_not (pt_val (pe_call (ok_is_part T) (hr.mono (by decide)) (by rfl) T.m_is_part T.F_is_part.kp T.b_is_part .nil pass0 (pa_cons (pv 1) (pa_cons (pe_dget hu (pv 0) (pv 1) (fun _ _ => rfl)) pa_nil))))) (pss_one ps_never) pss_nil) (pss_one (ps_if (PW.pt (pw_and (pt_cmpR op_eq (pv 1) pe_str (nomark _)) (pw_and (pt_cmpR op_eq (pe_dget hu (pv 0) pe_str (fun _ _ => rfl)) pe_str (nomark _)) (pw_and1 Rd.ptN)))) (pss_one ps_never) pss_nil))))
            (pss_one (ps_ret pe_non))), ?_⟩
      try dsimp only [L2.cxOf, L2.Cx.nox, L2.Cx.wish]
      with_reducible refine Rd.seq (Rd.fr (Rd.it (Rd.c (⟨_, rfl, ?_⟩))))
      refine Rd.unrollT (by walk_at "hpt") ?_
      refine Rd.unrTCons ?_
      with_reducible refine Rd.name ?_
      dsimp only [List.set]
      with_reducible refine Rd.seq (Rd.ifS (Rd.not (Rd.tb (Rd.call (Rd.cons (Rd.var (by walk_at "vr") (Rd.cons (Rd.dget (Rd.var (by walk_at "vr") (Rd.var (by walk_at "vr") ?_))))))))))
      refine Rd.dget2 (by walk_at "hp") (by walk_at "dl") ?_
      with_reducible refine Rd.nil ?_
      refine in_is_part (fun cdv Ar outer s hr => ?_) rfl
      have hu := hu_of hr
      refine ⟨_, (pss_cons (ps_if (pt_cmpR op_eq (pv 0) pe_str (nomark _)) (pss_one (ps_ret (pe_call (ok_is_wrap T) (hr.mono (by decide)) (by rfl) T.m_is_wrap T.F_is_wrap.kp T.b_is_wrap .nil pass0 (pa_cons (pv 1) pa_nil)))) pss_nil)
            (pss_cons ps_never (pss_one ps_never))), ?_⟩
      try dsimp only [L2.cxOf, L2.Cx.nox, L2.Cx.wish]
      with_reducible refine Rd.seq (Rd.ifS (Rd.test (Rd.op (Rd.var (by walk_at "vr") (Rd.c (Rd.eqS (by walk_at "vr") (Rd.bl (Rd.iteT (by first | with_unfolding_all rfl | walk_at "bT") (Rd.ret (Rd.call (Rd.cons ?_)))))))))))
      with_reducible refine Rd.var (by walk_at "vr") (Rd.nil ?_)
      refine in_is_wrap (fun cdv Ar outer s hr => ?_) rfl
      have hu := hu_of hr
      refine ⟨_, (pss_one (ps_ret (pe_or (pe_call (ok_is_small_form T) (hr.mono (by decide)) (by rfl) T.m_is_small_form T.F_is_small_form.kp T.b_is_small_form .nil pass0 (pa_cons (pv 0) pa_nil)) (pe_one Rd.peN)))), ?_⟩
      try dsimp only [L2.cxOf, L2.Cx.nox, L2.Cx.wish]
      with_reducible refine Rd.ret (Rd.orV (Rd.call (Rd.cons (Rd.var (by walk_at "vr") (Rd.nil ?_)))))
      refine in_is_small_form (fun cdv Ar outer s hr => ?_) rfl
      have hu := hu_of hr
      refine ⟨_, (pss_cons (ps_if (pt_not (pt_val (pe_callB (Rd.isi (K := K) rfl) (by rfl) T.n_isinstance (by decide +kernel) (pa_cons (pv 0) (pa_cons (pe_glob (v := .ref A.c_Form) rfl T.m_Form rfl) pa_nil))))) (pss_one ps_never) pss_nil)
            (pss_one (ps_ret (pe_and (pe_chain op_le op_le pe_int (pe_fld (pv 0) rfl) (pe_glob (v := .int (4)) rfl T.m_GREATEST_SLOPE ⟨_, rfl⟩)) (pe_one (pe_chain op_le op_le (pe_un un_neg (pe_glob (v := .int (20)) rfl T.m_GREATEST_BASE ⟨_, rfl⟩)) (pe_fld (pv 0) rfl) (pe_glob (v := .int (20)) rfl T.m_GREATEST_BASE ⟨_, rfl⟩))))))), ?_⟩
      try dsimp only [L2.cxOf, L2.Cx.nox, L2.Cx.wish]
      with_reducible refine Rd.seq (Rd.ifS (Rd.not (Rd.tb (Rd.cB (Rd.cons (Rd.var (by walk_at "vr") (Rd.cons (Rd.c (Rd.nil ?_)))))))))
      refine ⟨_, _, _, _, _, rfl, (by walk_at "clsv"), (by walk_at "tyx"), (by walk_at "kit"), ?_⟩
      with_reducible refine Rd.bl (Rd.iteF (by first | with_unfolding_all rfl | walk_at "bF") (Rd.next (Rd.ret (Rd.andV (Rd.chain (Rd.c (Rd.fld (Rd.var (by walk_at "vr") (⟨_, _, _, _, _, rfl, (by walk_at "hp"), T.k_Form, T.n_Form_slope, (by walk_at "lk"), (Rd.i0 (Rd.bl ?_))⟩)))))))))
      with_reducible refine Rd.iteT (by walk_at "bT") (Rd.c (Rd.i0 (Rd.bl (Rd.iteT (by walk_at "bT") (Rd.chain (Rd.un (Rd.c (Rd.iU (Rd.fld (Rd.var (by walk_at "vr") (⟨_, _, _, _, _, rfl, (by walk_at "hp"), T.k_Form, T.n_Form_base, (by walk_at "lk"), ?_⟩)))))))))))
      with_reducible refine Rd.i0 (Rd.bl (Rd.iteT (by walk_at "bT") (Rd.c (Rd.i0 (Rd.bl (Rd.iteT (by first | with_unfolding_all rfl | walk_at "bT") (Rd.bl (Rd.iteF (by walk_at "bF") (Rd.next (Rd.ifS (Rd.and ?_)))))))))))
      with_reducible refine Rd.test (Rd.op (Rd.var (by walk_at "vr") (Rd.c (Rd.eqS (by walk_at "vr") (Rd.bl (Rd.iteF (by first | with_unfolding_all rfl | walk_at "bF") (Rd.iteF rfl (Rd.next ?_))))))))
      refine ⟨by walk_at "hpt", ?_⟩
      refine Rd.unrTCons ?_
      with_reducible refine Rd.name ?_
      dsimp only [List.set]
      with_reducible refine Rd.seq (Rd.ifS (Rd.not (Rd.tb (Rd.call (Rd.cons (Rd.var (by walk_at "vr") (Rd.cons (Rd.dget (Rd.var (by walk_at "vr") (Rd.var (by walk_at "vr") ?_))))))))))
      refine Rd.dget2 (by walk_at "hp") (by walk_at "dl") ?_
      with_reducible refine Rd.nil ?_
      refine in_is_part (fun cdv Ar outer s hr => ?_) rfl
      have hu := hu_of hr
      refine ⟨_, (pss_cons (ps_if (pt_cmpR op_eq (pv 0) pe_str (nomark _)) (pss_one ps_never) pss_nil)
            (pss_cons (ps_if (pt_cmpR op_eq (pv 0) pe_str (nomark _)) (pss_one ps_never) pss_nil)
            (pss_one (ps_ret (pe_call (ok_is_word_of T) (hr.mono (by decide)) (by rfl) T.m_is_word_of T.F_is_word_of.kp T.b_is_word_of .nil pass0 (pa_cons (pv 1) (pa_cons (pe_ix ix_kdict (pe_glob (v := .ref A.t_PART_WORDS) rfl T.m_PART_WORDS rfl) (pv 0) (fun _ _ => rfl)) pa_nil))))))), ?_⟩
      try dsimp only [L2.cxOf, L2.Cx.nox, L2.Cx.wish]
      with_reducible refine Rd.seq (Rd.ifS (Rd.test (Rd.op (Rd.var (by walk_at "vr") (Rd.c (Rd.eqS (by walk_at "vr") (Rd.bl (Rd.iteF (by first | with_unfolding_all rfl | walk_at "bF") (Rd.next (Rd.seq (Rd.ifS ?_)))))))))))
      with_reducible refine Rd.test (Rd.op (Rd.var (by walk_at "vr") (Rd.c (Rd.eqS (by walk_at "vr") (Rd.bl (Rd.iteF (by first | with_unfolding_all rfl | walk_at "bF") (Rd.next (Rd.ret (Rd.call (Rd.cons (Rd.var (by walk_at "vr") ?_)))))))))))
      with_reducible refine Rd.cons (Rd.op (Rd.c (Rd.var (by walk_at "vr") ?_)))
      refine ⟨_, _, _, rfl, rfl, T.d_PART_WORDS_slot, ?_⟩
      with_reducible refine Rd.nil ?_
      refine in_is_word_of (fun cdv Ar outer s hr => ?_) rfl
      have hu := hu_of hr
      refine ⟨_, (pss_one (ps_ret (pe_and (pe_callB (Rd.isi (K := K) rfl) (by rfl) T.n_isinstance (by decide +kernel) (pa_cons (pv 0) (pa_cons (pe_bltn (v := .ty "str") (u := .type "str") (by rfl) T.n_str (by decide +kernel) rfl) pa_nil))) (pe_one (pe_cmpR op_in_seq (pv 0) (pv 1) (by with_unfolding_all rfl)))))), ?_⟩
      try dsimp only [L2.cxOf, L2.Cx.nox, L2.Cx.wish]
      with_reducible refine Rd.ret (Rd.andV (Rd.cB (Rd.cons (Rd.var (by walk_at "vr") (Rd.cons (Rd.c (Rd.nil ?_)))))))
      refine ⟨_, _, _, _, _, rfl, (by walk_at "clsv"), (by walk_at "tyx"), (by walk_at "kit"), ?_⟩
      with_reducible refine Rd.bl (Rd.iteT (by first | with_unfolding_all rfl | walk_at "bT") (Rd.op (Rd.var (by walk_at "vr") (Rd.var (by walk_at "vr") ?_))))
      refine Rd.inT (.inr (by walk_at "hpt")) rfl (by walk_at "flt") ?_
      with_reducible refine Rd.bl (Rd.iteF (by walk_at "bF") (Rd.next (Rd.ifS (Rd.and (Rd.test (Rd.op (Rd.var (by walk_at "vr") (Rd.c (Rd.eqS (by walk_at "vr") (Rd.bl (Rd.iteT (by first | with_unfolding_all rfl | walk_at "bT") ?_)))))))))))
      with_reducible refine Rd.and (Rd.test (Rd.op (Rd.dget (Rd.var (by walk_at "vr") (Rd.c ?_)))))
      refine Rd.dget2 (by walk_at "hp") (by walk_at "dl") ?_
      with_reducible refine Rd.c (Rd.eqS (by walk_at "vr") (Rd.bl (Rd.iteF (by walk_at "bF") (Rd.iteF rfl (Rd.next ?_)))))
      refine ⟨by walk_at "hpt", ?_⟩
      refine Rd.unrTCons ?_
      with_reducible refine Rd.name ?_
      dsimp only [List.set]
      with_reducible refine Rd.seq (Rd.ifS (Rd.not (Rd.tb (Rd.call (Rd.cons (Rd.var (by walk_at "vr") (Rd.cons (Rd.dget (Rd.var (by walk_at "vr") (Rd.var (by walk_at "vr") ?_))))))))))
      refine Rd.dget2 (by walk_at "hp") (by walk_at "dl") ?_
      with_reducible refine Rd.nil ?_
      refine in_is_part (fun cdv Ar outer s hr => ?_) rfl
      have hu := hu_of hr
      refine ⟨_, (pss_cons (ps_if (pt_cmpR op_eq (pv 0) pe_str (nomark _)) (pss_one ps_never) pss_nil)
            (pss_cons (ps_if (pt_cmpR op_eq (pv 0) pe_str (nomark _)) (pss_one ps_never) pss_nil)
            (pss_one (ps_ret (pe_call (ok_is_word_of T) (hr.mono (by decide)) (by rfl) T.m_is_word_of T.F_is_word_of.kp T.b_is_word_of .nil pass0 (pa_cons (pv 1) (pa_cons (pe_ix ix_kdict (pe_glob (v := .ref A.t_PART_WORDS) rfl T.m_PART_WORDS rfl) (pv 0) (fun _ _ => rfl)) pa_nil))))))), ?_⟩
      try dsimp only [L2.cxOf, L2.Cx.nox, L2.Cx.wish]
      with_reducible refine Rd.seq (Rd.ifS (Rd.test (Rd.op (Rd.var (by walk_at "vr") (Rd.c (Rd.eqS (by walk_at "vr") (Rd.bl (Rd.iteF (by first | with_unfolding_all rfl | walk_at "bF") (Rd.next (Rd.seq (Rd.ifS ?_)))))))))))
      with_reducible refine Rd.test (Rd.op (Rd.var (by walk_at "vr") (Rd.c (Rd.eqS (by walk_at "vr") (Rd.bl (Rd.iteF (by first | with_unfolding_all rfl | walk_at "bF") (Rd.next (Rd.ret (Rd.call (Rd.cons (Rd.var (by walk_at "vr") ?_)))))))))))
      with_reducible refine Rd.cons (Rd.op (Rd.c (Rd.var (by walk_at "vr") ?_)))
      refine ⟨_, _, _, rfl, rfl, T.d_PART_WORDS_empty, ?_⟩
      with_reducible refine Rd.nil ?_
      refine in_is_word_of (fun cdv Ar outer s hr => ?_) rfl
      have hu := hu_of hr
      refine ⟨_, (pss_one (ps_ret (pe_and (pe_callB (Rd.isi (K := K) rfl) (by rfl) T.n_isinstance (by decide +kernel) (pa_cons (pv 0) (pa_cons (pe_bltn (v := .ty "str") (u := .type "str") (by rfl) T.n_str (by decide +kernel) rfl) pa_nil))) (pe_one (pe_cmpR op_in_seq (pv 0) (pv 1) (by with_unfolding_all rfl)))))), ?_⟩
      try dsimp only [L2.cxOf, L2.Cx.nox, L2.Cx.wish]
      with_reducible refine Rd.ret (Rd.andV (Rd.cB (Rd.cons (Rd.var (by walk_at "vr") (Rd.cons (Rd.c (Rd.nil ?_)))))))
      refine ⟨_, _, _, _, _, rfl, (by walk_at "clsv"), (by walk_at "tyx"), (by walk_at "kit"), ?_⟩
      with_reducible refine Rd.bl (Rd.iteT (by first | with_unfolding_all rfl | walk_at "bT") (Rd.op (Rd.var (by walk_at "vr") (Rd.var (by walk_at "vr") ?_))))
      refine Rd.inT (.inr (by walk_at "hpt")) rfl (by walk_at "flt") ?_
      with_reducible refine Rd.bl (Rd.iteF (by walk_at "bF") (Rd.next (Rd.ifS (Rd.and (Rd.test (Rd.op (Rd.var (by walk_at "vr") (Rd.c (Rd.eqS (by walk_at "vr") (Rd.bl (Rd.iteF (by first | with_unfolding_all rfl | walk_at "bF") ?_)))))))))))
      with_reducible refine Rd.iteF rfl (Rd.next ?_)
      refine ⟨by walk_at "hpt", ?_⟩
      refine Rd.unrTCons ?_
      with_reducible refine Rd.name ?_
      dsimp only [List.set]
      with_reducible refine Rd.seq (Rd.ifS (Rd.not (Rd.tb (Rd.call (Rd.cons (Rd.var (by walk_at "vr") (Rd.cons (Rd.dget (Rd.var (by walk_at "vr") (Rd.var (by walk_at "vr") ?_))))))))))
      refine Rd.dget2 (by walk_at "hp") (by walk_at "dl") ?_
      with_reducible refine Rd.nil ?_
      refine in_is_part (fun cdv Ar outer s hr => ?_) rfl
      have hu := hu_of hr
      refine ⟨_, (pss_cons (ps_if (pt_cmpR op_eq (pv 0) pe_str (nomark _)) (pss_one ps_never) pss_nil)
            (pss_cons (ps_if (pt_cmpR op_eq (pv 0) pe_str (nomark _)) (pss_one (ps_ret (pe_call (ok_is_full T) (hr.mono (by decide)) (by rfl) T.m_is_full T.F_is_full.kp T.b_is_full .nil pass0 (pa_cons (pv 1) pa_nil)))) pss_nil)
            (pss_one ps_never))), ?_⟩
      try dsimp only [L2.cxOf, L2.Cx.nox, L2.Cx.wish]
      with_reducible refine Rd.seq (Rd.ifS (Rd.test (Rd.op (Rd.var (by walk_at "vr") (Rd.c (Rd.eqS (by walk_at "vr") (Rd.bl (Rd.iteF (by first | with_unfolding_all rfl | walk_at "bF") (Rd.next (Rd.seq (Rd.ifS ?_)))))))))))
      with_reducible refine Rd.test (Rd.op (Rd.var (by walk_at "vr") (Rd.c (Rd.eqS (by walk_at "vr") (Rd.bl (Rd.iteT (by first | with_unfolding_all rfl | walk_at "bT") (Rd.ret (Rd.call (Rd.cons (Rd.var (by walk_at "vr") (Rd.nil ?_)))))))))))
      refine in_is_full (fun cdv Ar outer s hr => ?_) rfl
      have hu := hu_of hr
      refine ⟨_, (pss_cons (ps_if (pt_not (pt_val (pe_callB (Rd.isi (K := K) rfl) (by rfl) T.n_isinstance (by decide +kernel) (pa_cons (pv 0) (pa_cons (pe_bltn (v := .ty "tuple") (u := .type "tuple") (by rfl) T.n_tuple (by decide +kernel) rfl) pa_nil))))) (pss_one ps_never) pss_nil)
            (pss_cons (ps_if (pt_cmpR op_eq (pe_callB call_len_seq (by rfl) T.n_len PySem.boot_len (pa_cons (pv 0) pa_nil)) pe_int (nomark _)) (pss_one (ps_ret (pe_call (ok_is_word_of T) (hr.mono (by decide)) (by rfl) T.m_is_word_of T.F_is_word_of.kp T.b_is_word_of .nil pass0 (pa_cons (pe_ix (Rd.ixTK rfl) (pv 0) pe_int (fun _ _ => rfl)) (pa_cons (pe_glob (v := .ref A.t_PLAIN_FULLS) rfl T.m_PLAIN_FULLS rfl) pa_nil))))) pss_nil)
            (pss_cons ps_never (pss_one ps_never)))), ?_⟩
      try dsimp only [L2.cxOf, L2.Cx.nox, L2.Cx.wish]
      with_reducible refine Rd.seq (Rd.ifS (Rd.not (Rd.tb (Rd.cB (Rd.cons (Rd.var (by walk_at "vr") (Rd.cons (Rd.c (Rd.nil ?_)))))))))
      refine ⟨_, _, _, _, _, rfl, (by walk_at "clsv"), (by walk_at "tyx"), (by walk_at "kit"), ?_⟩
      with_reducible refine Rd.bl (Rd.iteF (by first | with_unfolding_all rfl | walk_at "bF") (Rd.next (Rd.seq (Rd.ifS (Rd.test (Rd.op (Rd.cB (Rd.cons (Rd.var (by walk_at "vr") (Rd.nil (⟨_, _, rfl, (by walk_at "hpq"), ?_⟩)))))))))))
      with_reducible refine Rd.c (Rd.eqS (by walk_at "vr") (Rd.bl (Rd.iteT (by first | with_unfolding_all rfl | walk_at "bT") (Rd.ret (Rd.call (Rd.cons (Rd.op (Rd.var (by walk_at "vr") (Rd.c (Rd.ixT (by walk_at "hpt") (by walk_at "vr") (Rd.cons ?_)))))))))))
      with_reducible refine Rd.c (Rd.nil ?_)
      refine in_is_word_of (fun cdv Ar outer s hr => ?_) rfl
      have hu := hu_of hr
      refine ⟨_, (pss_one (ps_ret (pe_and (pe_callB (Rd.isi (K := K) rfl) (by rfl) T.n_isinstance (by decide +kernel) (pa_cons (pv 0) (pa_cons (pe_bltn (v := .ty "str") (u := .type "str") (by rfl) T.n_str (by decide +kernel) rfl) pa_nil))) (pe_one (pe_cmpR op_in_seq (pv 0) (pv 1) (by with_unfolding_all rfl)))))), ?_⟩
      try dsimp only [L2.cxOf, L2.Cx.nox, L2.Cx.wish]
      with_reducible refine Rd.ret (Rd.andV (Rd.cB (Rd.cons (Rd.var (by walk_at "vr") (Rd.cons (Rd.c (Rd.nil ?_)))))))
      refine ⟨_, _, _, _, _, rfl, (by walk_at "clsv"), (by walk_at "tyx"), (by walk_at "kit"), ?_⟩
      with_reducible refine Rd.bl (Rd.iteT (by first | with_unfolding_all rfl | walk_at "bT") (Rd.op (Rd.var (by walk_at "vr") (Rd.var (by walk_at "vr") ?_))))
      refine Rd.inT (.inr (by walk_at "hpt")) rfl (by walk_at "flt") ?_
      with_reducible refine Rd.bl (Rd.iteF (by walk_at "bF") (Rd.next (Rd.ifS (Rd.and (Rd.test (Rd.op (Rd.var (by walk_at "vr") (Rd.c (Rd.eqS (by walk_at "vr") (Rd.bl (Rd.iteF (by first | with_unfolding_all rfl | walk_at "bF") ?_)))))))))))
      with_reducible refine Rd.iteF rfl (Rd.next ?_)
      refine ⟨by walk_at "hpt", ?_⟩
      refine Rd.unrTCons ?_
      with_reducible refine Rd.name ?_
      dsimp only [List.set]
      with_reducible refine Rd.seq (Rd.ifS (Rd.not (Rd.tb (Rd.call (Rd.cons (Rd.var (by walk_at "vr") (Rd.cons (Rd.dget (Rd.var (by walk_at "vr") (Rd.var (by walk_at "vr") ?_))))))))))
      refine Rd.dget2 (by walk_at "hp") (by walk_at "dl") ?_
      with_reducible refine Rd.nil ?_
      refine in_is_part (fun cdv Ar outer s hr => ?_) rfl
      have hu := hu_of hr
      refine ⟨_, (pss_cons (ps_if (pt_cmpR op_eq (pv 0) pe_str (nomark _)) (pss_one ps_never) pss_nil)
            (pss_cons (ps_if (pt_cmpR op_eq (pv 0) pe_str (nomark _)) (pss_one ps_never) pss_nil)
            (pss_one (ps_ret (pe_call (ok_is_word_of T) (hr.mono (by decide)) (by rfl) T.m_is_word_of T.F_is_word_of.kp T.b_is_word_of .nil pass0 (pa_cons (pv 1) (pa_cons (pe_ix ix_kdict (pe_glob (v := .ref A.t_PART_WORDS) rfl T.m_PART_WORDS rfl) (pv 0) (fun _ _ => rfl)) pa_nil))))))), ?_⟩
      try dsimp only [L2.cxOf, L2.Cx.nox, L2.Cx.wish]
      with_reducible refine Rd.seq (Rd.ifS (Rd.test (Rd.op (Rd.var (by walk_at "vr") (Rd.c (Rd.eqS (by walk_at "vr") (Rd.bl (Rd.iteF (by first | with_unfolding_all rfl | walk_at "bF") (Rd.next (Rd.seq (Rd.ifS ?_)))))))))))
      with_reducible refine Rd.test (Rd.op (Rd.var (by walk_at "vr") (Rd.c (Rd.eqS (by walk_at "vr") (Rd.bl (Rd.iteF (by first | with_unfolding_all rfl | walk_at "bF") (Rd.next (Rd.ret (Rd.call (Rd.cons (Rd.var (by walk_at "vr") ?_)))))))))))
      with_reducible refine Rd.cons (Rd.op (Rd.c (Rd.var (by walk_at "vr") ?_)))
      refine ⟨_, _, _, rfl, rfl, T.d_PART_WORDS_when, ?_⟩
      with_reducible refine Rd.nil ?_
      refine in_is_word_of (fun cdv Ar outer s hr => ?_) rfl
      have hu := hu_of hr
      refine ⟨_, (pss_one (ps_ret (pe_and (pe_callB (Rd.isi (K := K) rfl) (by rfl) T.n_isinstance (by decide +kernel) (pa_cons (pv 0) (pa_cons (pe_bltn (v := .ty "str") (u := .type "str") (by rfl) T.n_str (by decide +kernel) rfl) pa_nil))) (pe_one (pe_cmpR op_in_seq (pv 0) (pv 1) (by with_unfolding_all rfl)))))), ?_⟩
      try dsimp only [L2.cxOf, L2.Cx.nox, L2.Cx.wish]
      with_reducible refine Rd.ret (Rd.andV (Rd.cB (Rd.cons (Rd.var (by walk_at "vr") (Rd.cons (Rd.c (Rd.nil ?_)))))))
      refine ⟨_, _, _, _, _, rfl, (by walk_at "clsv"), (by walk_at "tyx"), (by walk_at "kit"), ?_⟩
      with_reducible refine Rd.bl (Rd.iteT (by first | with_unfolding_all rfl | walk_at "bT") (Rd.op (Rd.var (by walk_at "vr") (Rd.var (by walk_at "vr") ?_))))
      refine Rd.inT (.inr (by walk_at "hpt")) rfl (by walk_at "flt") ?_
      with_reducible refine Rd.bl (Rd.iteF (by walk_at "bF") (Rd.next (Rd.ifS (Rd.and (Rd.test (Rd.op (Rd.var (by walk_at "vr") (Rd.c (Rd.eqS (by walk_at "vr") (Rd.bl (Rd.iteF (by first | with_unfolding_all rfl | walk_at "bF") ?_)))))))))))
      with_reducible refine Rd.iteF rfl (Rd.next ?_)
      refine ⟨by walk_at "hpt", ?_⟩
      refine Rd.unrTNil ?_
      with_reducible refine Rd.ret (Rd.c (Rd.name (Rd.seq (Rd.ifS (Rd.test (Rd.op (Rd.var (by walk_at "vr") (Rd.c (⟨rfl, (Rd.bl (Rd.iteF (by first | with_unfolding_all rfl | walk_at "bF") ?_))⟩)))))))))
      with_reducible refine Rd.next (Rd.sfld (Rd.var (by walk_at "vr") (Rd.var (by walk_at "vr") (⟨_, _, _, _, rfl, (by walk_at "hp"), T.k_Scheme, T.n_Scheme_parts, (by walk_at "sfl"), ?_⟩))))
      rw [fS_put]
      exact k _ _ (by walk_at "frm") (by assumption) L2.upd_same (by walk_at "hp")
    · obtain ⟨pw, dw, rfl, hpw⟩ := hw
      have w1 : 0 ≤ s ∧ s ≤ 4 ∧ -20 ≤ b ∧ b ≤ 20 := w1
      obtain ⟨pf, qf, dqf, rfl, hpf, hqf⟩ := hf
      obtain ⟨f1, f2, f3⟩ := w4
      have i4 : inV (.str kk) [.str "diff", .str "count"] = true := Rd.inW (ws := ["diff", "count"]) f1
      have i5 : inV (.str g) [.str "=", .str ">="] = true := Rd.inW (ws := ["=", ">="]) f2
      have i2 : (!inV (.str sl) [.str "rest", .str "off", .str "mask"]) = false := Rd.notF (Rd.inW (ws := ["rest", "off", "mask"]) w2)
      have i3 : (!inV (.str em) [.str "same", .str "count", .str "note"]) = false := Rd.notF (Rd.inW (ws := ["same", "count", "note"]) w3)
      have i6 : (!inV (.str wn) [.str "refuse", .str "drop", .str "over"]) = false := Rd.notF (Rd.inW (ws := ["refuse", "drop", "over"]) w5)
      have m1 : decide (V.str sl = V.str "mask") = false := nmask (w6 _ _ rfl)
      refine ⟨_, (pss_cons (ps_set (i := 6) sc_Schemeu__initu_.nd rfl (Or.inl rfl) (pe_disp (pps_cons pe_str (pv 1) (pps_cons pe_str (pv 2) (pps_cons pe_str (pv 3) (pps_cons pe_str (pv 4) (pps_cons pe_str (pv 5) pps_nil))))) rfl rfl (by simp) (by decide)))
      (pss_cons (ps_set (i := 7) sc_Schemeu__initu_.nd rfl (Or.inl rfl) (pe_call (ok_first_wrong T) (hr.mono (by decide)) (by rfl) T.m_first_wrong T.F_first_wrong.kp T.b_first_wrong .nil pass0 (pa_cons (pv 6) pa_nil)))
      (pss_cons (ps_if (pt_cmpR op_notN (pv 7) pe_non (nomark _)) (pss_one ps_never) pss_nil)
      (pss_one (ps_fld (pv 0) (pv 6) rfl))))), ?_⟩
      try dsimp only [L2.cxOf, L2.Cx.nox, L2.Cx.wish]
      with_reducible refine Rd.seq (Rd.asg ?_)
      refine Rd.disp5 (fun _ _ h => Rd.var (by walk_at "vr") h) (fun _ _ h => Rd.var (by walk_at "vr") h) (fun _ _ h => Rd.var (by walk_at "vr") h) (fun _ _ h => Rd.var (by walk_at "vr") h) (fun _ _ h => Rd.var (by walk_at "vr") h) ?_
      intro pd245_16 npd245_16
      rw [kvP_merge]
      with_reducible refine Rd.name (Rd.seq (Rd.asg (Rd.call (Rd.cons (Rd.var (by walk_at "vr") (Rd.nil ?_))))))
      refine in_first_wrong (fun cdv Ar outer s hr => ?_) rfl
      have hu := hu_of hr
      refine ⟨_, (pss_cons (ps_for PassesOwn.never rfl (pi_tup (pe_glob (v := .ref A.t_PART_NAMES) rfl T.m_PART_NAMES rfl)) (pg_name (i := 1) sc_first_wrong.nd rfl (Or.inl rfl)) (pss_cons (ps_if (pt_not (pt_val (pe_call (ok_is_part T) (hr.mono (by decide)) (by rfl) T.m_is_part T.F_is_part.kp T.b_is_part .nil pass0 (pa_cons (pv 1) (pa_cons (pe_dget hu (pv 0) (pv 1) (fun _ _ => rfl)) pa_nil))))) (pss_one ps_never) pss_nil) (pss_one (ps_if (PW.pt (pw_and (pt_cmpR op_eq (pv 1) pe_str (nomark _)) (pw_and (pt_cmpR op_eq (pe_dget hu (pv 0) pe_str (fun _ _ => rfl)) pe_str (nomark _)) (pw_and1 Rd.ptN)))) (pss_one ps_never) pss_nil))))
            (pss_one (ps_ret pe_non))), ?_⟩
      try dsimp only [L2.cxOf, L2.Cx.nox, L2.Cx.wish]
      with_reducible refine Rd.seq (Rd.fr (Rd.it (Rd.c (⟨_, rfl, ?_⟩))))
      refine Rd.unrollT (by walk_at "hpt") ?_
      refine Rd.unrTCons ?_
      with_reducible refine Rd.name ?_
      dsimp only [List.set]
      with_reducible refine Rd.seq (Rd.ifS (Rd.not (Rd.tb (Rd.call (Rd.cons (Rd.var (by walk_at "vr") (Rd.cons (Rd.dget (Rd.var (by walk_at "vr") (Rd.var (by walk_at "vr") ?_))))))))))
      refine Rd.dget2 (by walk_at "hp") (by walk_at "dl") ?_
      with_reducible refine Rd.nil ?_
      refine in_is_part (fun cdv Ar outer s hr => ?_) rfl
      have hu := hu_of hr
      refine ⟨_, (pss_cons (ps_if (pt_cmpR op_eq (pv 0) pe_str (nomark _)) (pss_one (ps_ret (pe_call (ok_is_wrap T) (hr.mono (by decide)) (by rfl) T.m_is_wrap T.F_is_wrap.kp T.b_is_wrap .nil pass0 (pa_cons (pv 1) pa_nil)))) pss_nil)
            (pss_cons ps_never (pss_one ps_never))), ?_⟩
      try dsimp only [L2.cxOf, L2.Cx.nox, L2.Cx.wish]
      with_reducible refine Rd.seq (Rd.ifS (Rd.test (Rd.op (Rd.var (by walk_at "vr") (Rd.c (Rd.eqS (by walk_at "vr") (Rd.bl (Rd.iteT (by first | with_unfolding_all rfl | walk_at "bT") (Rd.ret (Rd.call (Rd.cons ?_)))))))))))
      with_reducible refine Rd.var (by walk_at "vr") (Rd.nil ?_)
      refine in_is_wrap (fun cdv Ar outer s hr => ?_) rfl
      have hu := hu_of hr
      refine ⟨_, (pss_one (ps_ret (pe_or (pe_call (ok_is_small_form T) (hr.mono (by decide)) (by rfl) T.m_is_small_form T.F_is_small_form.kp T.b_is_small_form .nil pass0 (pa_cons (pv 0) pa_nil)) (pe_one Rd.peN)))), ?_⟩
      try dsimp only [L2.cxOf, L2.Cx.nox, L2.Cx.wish]
      with_reducible refine Rd.ret (Rd.orV (Rd.call (Rd.cons (Rd.var (by walk_at "vr") (Rd.nil ?_)))))
      refine in_is_small_form (fun cdv Ar outer s hr => ?_) rfl
      have hu := hu_of hr
      refine ⟨_, (pss_cons (ps_if (pt_not (pt_val (pe_callB (Rd.isi (K := K) rfl) (by rfl) T.n_isinstance (by decide +kernel) (pa_cons (pv 0) (pa_cons (pe_glob (v := .ref A.c_Form) rfl T.m_Form rfl) pa_nil))))) (pss_one ps_never) pss_nil)
            (pss_one (ps_ret (pe_and (pe_chain op_le op_le pe_int (pe_fld (pv 0) rfl) (pe_glob (v := .int (4)) rfl T.m_GREATEST_SLOPE ⟨_, rfl⟩)) (pe_one (pe_chain op_le op_le (pe_un un_neg (pe_glob (v := .int (20)) rfl T.m_GREATEST_BASE ⟨_, rfl⟩)) (pe_fld (pv 0) rfl) (pe_glob (v := .int (20)) rfl T.m_GREATEST_BASE ⟨_, rfl⟩))))))), ?_⟩
      try dsimp only [L2.cxOf, L2.Cx.nox, L2.Cx.wish]
      with_reducible refine Rd.seq (Rd.ifS (Rd.not (Rd.tb (Rd.cB (Rd.cons (Rd.var (by walk_at "vr") (Rd.cons (Rd.c (Rd.nil ?_)))))))))
      refine ⟨_, _, _, _, _, rfl, (by walk_at "clsv"), (by walk_at "tyx"), (by walk_at "kit"), ?_⟩
      with_reducible refine Rd.bl (Rd.iteF (by first | with_unfolding_all rfl | walk_at "bF") (Rd.next (Rd.ret (Rd.andV (Rd.chain (Rd.c (Rd.fld (Rd.var (by walk_at "vr") (⟨_, _, _, _, _, rfl, (by walk_at "hp"), T.k_Form, T.n_Form_slope, (by walk_at "lk"), (Rd.i0 (Rd.bl ?_))⟩)))))))))
      with_reducible refine Rd.iteT (by walk_at "bT") (Rd.c (Rd.i0 (Rd.bl (Rd.iteT (by walk_at "bT") (Rd.chain (Rd.un (Rd.c (Rd.iU (Rd.fld (Rd.var (by walk_at "vr") (⟨_, _, _, _, _, rfl, (by walk_at "hp"), T.k_Form, T.n_Form_base, (by walk_at "lk"), ?_⟩)))))))))))
      with_reducible refine Rd.i0 (Rd.bl (Rd.iteT (by walk_at "bT") (Rd.c (Rd.i0 (Rd.bl (Rd.iteT (by first | with_unfolding_all rfl | walk_at "bT") (Rd.bl (Rd.iteF (by walk_at "bF") (Rd.next (Rd.ifS (Rd.and ?_)))))))))))
      with_reducible refine Rd.test (Rd.op (Rd.var (by walk_at "vr") (Rd.c (Rd.eqS (by walk_at "vr") (Rd.bl (Rd.iteF (by first | with_unfolding_all rfl | walk_at "bF") (Rd.iteF rfl (Rd.next ?_))))))))
      refine ⟨by walk_at "hpt", ?_⟩
      refine Rd.unrTCons ?_
      with_reducible refine Rd.name ?_
      dsimp only [List.set]
      with_reducible refine Rd.seq (Rd.ifS (Rd.not (Rd.tb (Rd.call (Rd.cons (Rd.var (by walk_at "vr") (Rd.cons (Rd.dget (Rd.var (by walk_at "vr") (Rd.var (by walk_at "vr") ?_))))))))))
      refine Rd.dget2 (by walk_at "hp") (by walk_at "dl") ?_
      with_reducible refine Rd.nil ?_
      refine in_is_part (fun cdv Ar outer s hr => ?_) rfl
      have hu := hu_of hr
      refine ⟨_, (pss_cons (ps_if (pt_cmpR op_eq (pv 0) pe_str (nomark _)) (pss_one ps_never) pss_nil)
            (pss_cons (ps_if (pt_cmpR op_eq (pv 0) pe_str (nomark _)) (pss_one ps_never) pss_nil)
            (pss_one (ps_ret (pe_call (ok_is_word_of T) (hr.mono (by decide)) (by rfl) T.m_is_word_of T.F_is_word_of.kp T.b_is_word_of .nil pass0 (pa_cons (pv 1) (pa_cons (pe_ix ix_kdict (pe_glob (v := .ref A.t_PART_WORDS) rfl T.m_PART_WORDS rfl) (pv 0) (fun _ _ => rfl)) pa_nil))))))), ?_⟩
      try dsimp only [L2.cxOf, L2.Cx.nox, L2.Cx.wish]
      with_reducible refine Rd.seq (Rd.ifS (Rd.test (Rd.op (Rd.var (by walk_at "vr") (Rd.c (Rd.eqS (by walk_at "vr") (Rd.bl (Rd.iteF (by first | with_unfolding_all rfl | walk_at "bF") (Rd.next (Rd.seq (Rd.ifS ?_)))))))))))
      with_reducible refine Rd.test (Rd.op (Rd.var (by walk_at "vr") (Rd.c (Rd.eqS (by walk_at "vr") (Rd.bl (Rd.iteF (by first | with_unfolding_all rfl | walk_at "bF") (Rd.next (Rd.ret (Rd.call (Rd.cons (Rd.var (by walk_at "vr") ?_)))))))))))
      with_reducible refine Rd.cons (Rd.op (Rd.c (Rd.var (by walk_at "vr") ?_)))
      refine ⟨_, _, _, rfl, rfl, T.d_PART_WORDS_slot, ?_⟩
      with_reducible refine Rd.nil ?_
      refine in_is_word_of (fun cdv Ar outer s hr => ?_) rfl
      have hu := hu_of hr
      refine ⟨_, (pss_one (ps_ret (pe_and (pe_callB (Rd.isi (K := K) rfl) (by rfl) T.n_isinstance (by decide +kernel) (pa_cons (pv 0) (pa_cons (pe_bltn (v := .ty "str") (u := .type "str") (by rfl) T.n_str (by decide +kernel) rfl) pa_nil))) (pe_one (pe_cmpR op_in_seq (pv 0) (pv 1) (by with_unfolding_all rfl)))))), ?_⟩
      try dsimp only [L2.cxOf, L2.Cx.nox, L2.Cx.wish]
      with_reducible refine Rd.ret (Rd.andV (Rd.cB (Rd.cons (Rd.var (by walk_at "vr") (Rd.cons (Rd.c (Rd.nil ?_)))))))
      refine ⟨_, _, _, _, _, rfl, (by walk_at "clsv"), (by walk_at "tyx"), (by walk_at "kit"), ?_⟩
      with_reducible refine Rd.bl (Rd.iteT (by first | with_unfolding_all rfl | walk_at "bT") (Rd.op (Rd.var (by walk_at "vr") (Rd.var (by walk_at "vr") ?_))))
      refine Rd.inT (.inr (by walk_at "hpt")) rfl (by walk_at "flt") ?_
      with_reducible refine Rd.bl (Rd.iteF (by walk_at "bF") (Rd.next (Rd.ifS (Rd.and (Rd.test (Rd.op (Rd.var (by walk_at "vr") (Rd.c (Rd.eqS (by walk_at "vr") (Rd.bl (Rd.iteT (by first | with_unfolding_all rfl | walk_at "bT") ?_)))))))))))
      with_reducible refine Rd.and (Rd.test (Rd.op (Rd.dget (Rd.var (by walk_at "vr") (Rd.c ?_)))))
      refine Rd.dget2 (by walk_at "hp") (by walk_at "dl") ?_
      with_reducible refine Rd.c (Rd.eqS (by walk_at "vr") (Rd.bl (Rd.iteF (by walk_at "bF") (Rd.iteF rfl (Rd.next ?_)))))
      refine ⟨by walk_at "hpt", ?_⟩
      refine Rd.unrTCons ?_
      with_reducible refine Rd.name ?_
      dsimp only [List.set]
      with_reducible refine Rd.seq (Rd.ifS (Rd.not (Rd.tb (Rd.call (Rd.cons (Rd.var (by walk_at "vr") (Rd.cons (Rd.dget (Rd.var (by walk_at "vr") (Rd.var (by walk_at "vr") ?_))))))))))
      refine Rd.dget2 (by walk_at "hp") (by walk_at "dl") ?_
      with_reducible refine Rd.nil ?_
      refine in_is_part (fun cdv Ar outer s hr => ?_) rfl
      have hu := hu_of hr
      refine ⟨_, (pss_cons (ps_if (pt_cmpR op_eq (pv 0) pe_str (nomark _)) (pss_one ps_never) pss_nil)
            (pss_cons (ps_if (pt_cmpR op_eq (pv 0) pe_str (nomark _)) (pss_one ps_never) pss_nil)
            (pss_one (ps_ret (pe_call (ok_is_word_of T) (hr.mono (by decide)) (by rfl) T.m_is_word_of T.F_is_word_of.kp T.b_is_word_of .nil pass0 (pa_cons (pv 1) (pa_cons (pe_ix ix_kdict (pe_glob (v := .ref A.t_PART_WORDS) rfl T.m_PART_WORDS rfl) (pv 0) (fun _ _ => rfl)) pa_nil))))))), ?_⟩
      try dsimp only [L2.cxOf, L2.Cx.nox, L2.Cx.wish]
      with_reducible refine Rd.seq (Rd.ifS (Rd.test (Rd.op (Rd.var (by walk_at "vr") (Rd.c (Rd.eqS (by walk_at "vr") (Rd.bl (Rd.iteF (by first | with_unfolding_all rfl | walk_at "bF") (Rd.next (Rd.seq (Rd.ifS ?_)))))))))))
      with_reducible refine Rd.test (Rd.op (Rd.var (by walk_at "vr") (Rd.c (Rd.eqS (by walk_at "vr") (Rd.bl (Rd.iteF (by first | with_unfolding_all rfl | walk_at "bF") (Rd.next (Rd.ret (Rd.call (Rd.cons (Rd.var (by walk_at "vr") ?_)))))))))))
      with_reducible refine Rd.cons (Rd.op (Rd.c (Rd.var (by walk_at "vr") ?_)))
      refine ⟨_, _, _, rfl, rfl, T.d_PART_WORDS_empty, ?_⟩
      with_reducible refine Rd.nil ?_
      refine in_is_word_of (fun cdv Ar outer s hr => ?_) rfl
      have hu := hu_of hr
      refine ⟨_, (pss_one (ps_ret (pe_and (pe_callB (Rd.isi (K := K) rfl) (by rfl) T.n_isinstance (by decide +kernel) (pa_cons (pv 0) (pa_cons (pe_bltn (v := .ty "str") (u := .type "str") (by rfl) T.n_str (by decide +kernel) rfl) pa_nil))) (pe_one (pe_cmpR op_in_seq (pv 0) (pv 1) (by with_unfolding_all rfl)))))), ?_⟩
      try dsimp only [L2.cxOf, L2.Cx.nox, L2.Cx.wish]
      with_reducible refine Rd.ret (Rd.andV (Rd.cB (Rd.cons (Rd.var (by walk_at "vr") (Rd.cons (Rd.c (Rd.nil ?_)))))))
      refine ⟨_, _, _, _, _, rfl, (by walk_at "clsv"), (by walk_at "tyx"), (by walk_at "kit"), ?_⟩
      with_reducible refine Rd.bl (Rd.iteT (by first | with_unfolding_all rfl | walk_at "bT") (Rd.op (Rd.var (by walk_at "vr") (Rd.var (by walk_at "vr") ?_))))
      refine Rd.inT (.inr (by walk_at "hpt")) rfl (by walk_at "flt") ?_
      with_reducible refine Rd.bl (Rd.iteF (by walk_at "bF") (Rd.next (Rd.ifS (Rd.and (Rd.test (Rd.op (Rd.var (by walk_at "vr") (Rd.c (Rd.eqS (by walk_at "vr") (Rd.bl (Rd.iteF (by first | with_unfolding_all rfl | walk_at "bF") ?_)))))))))))
      with_reducible refine Rd.iteF rfl (Rd.next ?_)
      refine ⟨by walk_at "hpt", ?_⟩
      refine Rd.unrTCons ?_
      with_reducible refine Rd.name ?_
      dsimp only [List.set]
      with_reducible refine Rd.seq (Rd.ifS (Rd.not (Rd.tb (Rd.call (Rd.cons (Rd.var (by walk_at "vr") (Rd.cons (Rd.dget (Rd.var (by walk_at "vr") (Rd.var (by walk_at "vr") ?_))))))))))
      refine Rd.dget2 (by walk_at "hp") (by walk_at "dl") ?_
      with_reducible refine Rd.nil ?_
      refine in_is_part (fun cdv Ar outer s hr => ?_) rfl
      have hu := hu_of hr
      refine ⟨_, (pss_cons (ps_if (pt_cmpR op_eq (pv 0) pe_str (nomark _)) (pss_one ps_never) pss_nil)
            (pss_cons (ps_if (pt_cmpR op_eq (pv 0) pe_str (nomark _)) (pss_one (ps_ret (pe_call (ok_is_full T) (hr.mono (by decide)) (by rfl) T.m_is_full T.F_is_full.kp T.b_is_full .nil pass0 (pa_cons (pv 1) pa_nil)))) pss_nil)
            (pss_one ps_never))), ?_⟩
      try dsimp only [L2.cxOf, L2.Cx.nox, L2.Cx.wish]
      with_reducible refine Rd.seq (Rd.ifS (Rd.test (Rd.op (Rd.var (by walk_at "vr") (Rd.c (Rd.eqS (by walk_at "vr") (Rd.bl (Rd.iteF (by first | with_unfolding_all rfl | walk_at "bF") (Rd.next (Rd.seq (Rd.ifS ?_)))))))))))
      with_reducible refine Rd.test (Rd.op (Rd.var (by walk_at "vr") (Rd.c (Rd.eqS (by walk_at "vr") (Rd.bl (Rd.iteT (by first | with_unfolding_all rfl | walk_at "bT") (Rd.ret (Rd.call (Rd.cons (Rd.var (by walk_at "vr") (Rd.nil ?_)))))))))))
      refine in_is_full (fun cdv Ar outer s hr => ?_) rfl
      have hu := hu_of hr
      refine ⟨_, (pss_cons (ps_if (pt_not (pt_val (pe_callB (Rd.isi (K := K) rfl) (by rfl) T.n_isinstance (by decide +kernel) (pa_cons (pv 0) (pa_cons (pe_bltn (v := .ty "tuple") (u := .type "tuple") (by rfl) T.n_tuple (by decide +kernel) rfl) pa_nil))))) (pss_one ps_never) pss_nil)
            (pss_cons (ps_if (pt_cmpR op_eq (pe_callB call_len_seq (by rfl) T.n_len PySem.boot_len (pa_cons (pv 0) pa_nil)) pe_int (nomark _)) (pss_one ps_never) pss_nil)
            (pss_cons (ps_if (pt_cmpR op_ne (pe_callB call_len_seq (by rfl) T.n_len PySem.boot_len (pa_cons (pv 0) pa_nil)) pe_int (nomark _)) (pss_one ps_never) pss_nil)
            (pss_one (ps_ret (pe_and (pe_call (ok_is_word_of T) (hr.mono (by decide)) (by rfl) T.m_is_word_of T.F_is_word_of.kp T.b_is_word_of .nil pass0 (pa_cons (pe_ix (Rd.ixTK rfl) (pv 0) pe_int (fun _ _ => rfl)) (pa_cons (pe_glob (v := .ref A.t_MEASURES) rfl T.m_MEASURES rfl) pa_nil))) (pe_and (pe_call (ok_is_word_of T) (hr.mono (by decide)) (by rfl) T.m_is_word_of T.F_is_word_of.kp T.b_is_word_of .nil pass0 (pa_cons (pe_ix (Rd.ixTK rfl) (pv 0) pe_int (fun _ _ => rfl)) (pa_cons (pe_glob (v := .ref A.t_SIGNS) rfl T.m_SIGNS rfl) pa_nil))) (pe_one (pe_call (ok_is_small_form T) (hr.mono (by decide)) (by rfl) T.m_is_small_form T.F_is_small_form.kp T.b_is_small_form .nil pass0 (pa_cons (pe_ix (Rd.ixTK rfl) (pv 0) pe_int (fun _ _ => rfl)) pa_nil)))))))))), ?_⟩
      try dsimp only [L2.cxOf, L2.Cx.nox, L2.Cx.wish]
      with_reducible refine Rd.seq (Rd.ifS (Rd.not (Rd.tb (Rd.cB (Rd.cons (Rd.var (by walk_at "vr") (Rd.cons (Rd.c (Rd.nil ?_)))))))))
      refine ⟨_, _, _, _, _, rfl, (by walk_at "clsv"), (by walk_at "tyx"), (by walk_at "kit"), ?_⟩
      with_reducible refine Rd.bl (Rd.iteF (by first | with_unfolding_all rfl | walk_at "bF") (Rd.next (Rd.seq (Rd.ifS (Rd.test (Rd.op (Rd.cB (Rd.cons (Rd.var (by walk_at "vr") (Rd.nil (⟨_, _, rfl, (by walk_at "hpq"), ?_⟩)))))))))))
      with_reducible refine Rd.c (Rd.eqS (by walk_at "vr") (Rd.bl (Rd.iteF (by first | with_unfolding_all rfl | walk_at "bF") (Rd.next (Rd.seq (Rd.ifS (Rd.test (Rd.op (Rd.cB (Rd.cons (Rd.var (by walk_at "vr") ?_)))))))))))
      with_reducible refine Rd.nil (⟨_, _, rfl, (by walk_at "hpq"), (Rd.c (Rd.neS (by walk_at "vr") (Rd.bl (Rd.iteF (by first | with_unfolding_all rfl | walk_at "bF") (Rd.next (Rd.ret (Rd.andV (Rd.call (Rd.cons (Rd.op ?_))))))))))⟩)
      with_reducible refine Rd.var (by walk_at "vr") (Rd.c (Rd.ixT (by walk_at "hpt") (by walk_at "vr") (Rd.cons (Rd.c (Rd.nil ?_)))))
      refine in_is_word_of (fun cdv Ar outer s hr => ?_) rfl
      have hu := hu_of hr
      refine ⟨_, (pss_one (ps_ret (pe_and (pe_callB (Rd.isi (K := K) rfl) (by rfl) T.n_isinstance (by decide +kernel) (pa_cons (pv 0) (pa_cons (pe_bltn (v := .ty "str") (u := .type "str") (by rfl) T.n_str (by decide +kernel) rfl) pa_nil))) (pe_one (pe_cmpR op_in_seq (pv 0) (pv 1) (by with_unfolding_all rfl)))))), ?_⟩
      try dsimp only [L2.cxOf, L2.Cx.nox, L2.Cx.wish]
      with_reducible refine Rd.ret (Rd.andV (Rd.cB (Rd.cons (Rd.var (by walk_at "vr") (Rd.cons (Rd.c (Rd.nil ?_)))))))
      refine ⟨_, _, _, _, _, rfl, (by walk_at "clsv"), (by walk_at "tyx"), (by walk_at "kit"), ?_⟩
      with_reducible refine Rd.bl (Rd.iteT (by first | with_unfolding_all rfl | walk_at "bT") (Rd.op (Rd.var (by walk_at "vr") (Rd.var (by walk_at "vr") ?_))))
      refine Rd.inT (.inr (by walk_at "hpt")) rfl (by walk_at "flt") ?_
      with_reducible refine Rd.bl (Rd.iteT (by walk_at "bT") (Rd.andV (Rd.call (Rd.cons (Rd.op (Rd.var (by walk_at "vr") (Rd.c (Rd.ixT (by walk_at "hpt") (by walk_at "vr") (Rd.cons (Rd.c (Rd.nil ?_)))))))))))
      refine in_is_word_of (fun cdv Ar outer s hr => ?_) rfl
      have hu := hu_of hr
      refine ⟨_, (pss_one (ps_ret (pe_and (pe_callB (Rd.isi (K := K) rfl) (by rfl) T.n_isinstance (by decide +kernel) (pa_cons (pv 0) (pa_cons (pe_bltn (v := .ty "str") (u := .type "str") (by rfl) T.n_str (by decide +kernel) rfl) pa_nil))) (pe_one (pe_cmpR op_in_seq (pv 0) (pv 1) (by with_unfolding_all rfl)))))), ?_⟩
      try dsimp only [L2.cxOf, L2.Cx.nox, L2.Cx.wish]
      with_reducible refine Rd.ret (Rd.andV (Rd.cB (Rd.cons (Rd.var (by walk_at "vr") (Rd.cons (Rd.c (Rd.nil ?_)))))))
      refine ⟨_, _, _, _, _, rfl, (by walk_at "clsv"), (by walk_at "tyx"), (by walk_at "kit"), ?_⟩
      with_reducible refine Rd.bl (Rd.iteT (by first | with_unfolding_all rfl | walk_at "bT") (Rd.op (Rd.var (by walk_at "vr") (Rd.var (by walk_at "vr") ?_))))
      refine Rd.inT (.inr (by walk_at "hpt")) rfl (by walk_at "flt") ?_
      with_reducible refine Rd.bl (Rd.iteT (by walk_at "bT") (Rd.call (Rd.cons (Rd.op (Rd.var (by walk_at "vr") (Rd.c (Rd.ixT (by walk_at "hpt") (by walk_at "vr") (Rd.nil ?_))))))))
      refine in_is_small_form (fun cdv Ar outer s hr => ?_) rfl
      have hu := hu_of hr
      refine ⟨_, (pss_cons (ps_if (pt_not (pt_val (pe_callB (Rd.isi (K := K) rfl) (by rfl) T.n_isinstance (by decide +kernel) (pa_cons (pv 0) (pa_cons (pe_glob (v := .ref A.c_Form) rfl T.m_Form rfl) pa_nil))))) (pss_one ps_never) pss_nil)
            (pss_one (ps_ret (pe_and (pe_chain op_le op_le pe_int (pe_fld (pv 0) rfl) (pe_glob (v := .int (4)) rfl T.m_GREATEST_SLOPE ⟨_, rfl⟩)) (pe_one (pe_chain op_le op_le (pe_un un_neg (pe_glob (v := .int (20)) rfl T.m_GREATEST_BASE ⟨_, rfl⟩)) (pe_fld (pv 0) rfl) (pe_glob (v := .int (20)) rfl T.m_GREATEST_BASE ⟨_, rfl⟩))))))), ?_⟩
      try dsimp only [L2.cxOf, L2.Cx.nox, L2.Cx.wish]
      with_reducible refine Rd.seq (Rd.ifS (Rd.not (Rd.tb (Rd.cB (Rd.cons (Rd.var (by walk_at "vr") (Rd.cons (Rd.c (Rd.nil ?_)))))))))
      refine ⟨_, _, _, _, _, rfl, (by walk_at "clsv"), (by walk_at "tyx"), (by walk_at "kit"), ?_⟩
      with_reducible refine Rd.bl (Rd.iteF (by first | with_unfolding_all rfl | walk_at "bF") (Rd.next (Rd.ret (Rd.andV (Rd.chain (Rd.c (Rd.fld (Rd.var (by walk_at "vr") (⟨_, _, _, _, _, rfl, (by walk_at "hp"), T.k_Form, T.n_Form_slope, (by walk_at "lk"), (Rd.i0 (Rd.bl ?_))⟩)))))))))
      with_reducible refine Rd.iteT (by walk_at "bT") (Rd.c (Rd.i0 (Rd.bl (Rd.iteT (by walk_at "bT") (Rd.chain (Rd.un (Rd.c (Rd.iU (Rd.fld (Rd.var (by walk_at "vr") (⟨_, _, _, _, _, rfl, (by walk_at "hp"), T.k_Form, T.n_Form_base, (by walk_at "lk"), ?_⟩)))))))))))
      with_reducible refine Rd.i0 (Rd.bl (Rd.iteT (by walk_at "bT") (Rd.c (Rd.i0 (Rd.bl (Rd.iteF (by walk_at "bF") (Rd.next (Rd.ifS (Rd.and (Rd.test (Rd.op ?_)))))))))))
      with_reducible refine Rd.var (by walk_at "vr") (Rd.c (Rd.eqS (by walk_at "vr") (Rd.bl (Rd.iteF (by first | with_unfolding_all rfl | walk_at "bF") (Rd.iteF rfl (Rd.next ?_))))))
      refine ⟨by walk_at "hpt", ?_⟩
      refine Rd.unrTCons ?_
      with_reducible refine Rd.name ?_
      dsimp only [List.set]
      with_reducible refine Rd.seq (Rd.ifS (Rd.not (Rd.tb (Rd.call (Rd.cons (Rd.var (by walk_at "vr") (Rd.cons (Rd.dget (Rd.var (by walk_at "vr") (Rd.var (by walk_at "vr") ?_))))))))))
      refine Rd.dget2 (by walk_at "hp") (by walk_at "dl") ?_
      with_reducible refine Rd.nil ?_
      refine in_is_part (fun cdv Ar outer s hr => ?_) rfl
      have hu := hu_of hr
      refine ⟨_, (pss_cons (ps_if (pt_cmpR op_eq (pv 0) pe_str (nomark _)) (pss_one ps_never) pss_nil)
            (pss_cons (ps_if (pt_cmpR op_eq (pv 0) pe_str (nomark _)) (pss_one ps_never) pss_nil)
            (pss_one (ps_ret (pe_call (ok_is_word_of T) (hr.mono (by decide)) (by rfl) T.m_is_word_of T.F_is_word_of.kp T.b_is_word_of .nil pass0 (pa_cons (pv 1) (pa_cons (pe_ix ix_kdict (pe_glob (v := .ref A.t_PART_WORDS) rfl T.m_PART_WORDS rfl) (pv 0) (fun _ _ => rfl)) pa_nil))))))), ?_⟩
      try dsimp only [L2.cxOf, L2.Cx.nox, L2.Cx.wish]
      with_reducible refine Rd.seq (Rd.ifS (Rd.test (Rd.op (Rd.var (by walk_at "vr") (Rd.c (Rd.eqS (by walk_at "vr") (Rd.bl (Rd.iteF (by first | with_unfolding_all rfl | walk_at "bF") (Rd.next (Rd.seq (Rd.ifS ?_)))))))))))
      with_reducible refine Rd.test (Rd.op (Rd.var (by walk_at "vr") (Rd.c (Rd.eqS (by walk_at "vr") (Rd.bl (Rd.iteF (by first | with_unfolding_all rfl | walk_at "bF") (Rd.next (Rd.ret (Rd.call (Rd.cons (Rd.var (by walk_at "vr") ?_)))))))))))
      with_reducible refine Rd.cons (Rd.op (Rd.c (Rd.var (by walk_at "vr") ?_)))
      refine ⟨_, _, _, rfl, rfl, T.d_PART_WORDS_when, ?_⟩
      with_reducible refine Rd.nil ?_
      refine in_is_word_of (fun cdv Ar outer s hr => ?_) rfl
      have hu := hu_of hr
      refine ⟨_, (pss_one (ps_ret (pe_and (pe_callB (Rd.isi (K := K) rfl) (by rfl) T.n_isinstance (by decide +kernel) (pa_cons (pv 0) (pa_cons (pe_bltn (v := .ty "str") (u := .type "str") (by rfl) T.n_str (by decide +kernel) rfl) pa_nil))) (pe_one (pe_cmpR op_in_seq (pv 0) (pv 1) (by with_unfolding_all rfl)))))), ?_⟩
      try dsimp only [L2.cxOf, L2.Cx.nox, L2.Cx.wish]
      with_reducible refine Rd.ret (Rd.andV (Rd.cB (Rd.cons (Rd.var (by walk_at "vr") (Rd.cons (Rd.c (Rd.nil ?_)))))))
      refine ⟨_, _, _, _, _, rfl, (by walk_at "clsv"), (by walk_at "tyx"), (by walk_at "kit"), ?_⟩
      with_reducible refine Rd.bl (Rd.iteT (by first | with_unfolding_all rfl | walk_at "bT") (Rd.op (Rd.var (by walk_at "vr") (Rd.var (by walk_at "vr") ?_))))
      refine Rd.inT (.inr (by walk_at "hpt")) rfl (by walk_at "flt") ?_
      with_reducible refine Rd.bl (Rd.iteF (by walk_at "bF") (Rd.next (Rd.ifS (Rd.and (Rd.test (Rd.op (Rd.var (by walk_at "vr") (Rd.c (Rd.eqS (by walk_at "vr") (Rd.bl (Rd.iteF (by first | with_unfolding_all rfl | walk_at "bF") ?_)))))))))))
      with_reducible refine Rd.iteF rfl (Rd.next ?_)
      refine ⟨by walk_at "hpt", ?_⟩
      refine Rd.unrTNil ?_
      with_reducible refine Rd.ret (Rd.c (Rd.name (Rd.seq (Rd.ifS (Rd.test (Rd.op (Rd.var (by walk_at "vr") (Rd.c (⟨rfl, (Rd.bl (Rd.iteF (by first | with_unfolding_all rfl | walk_at "bF") ?_))⟩)))))))))
      with_reducible refine Rd.next (Rd.sfld (Rd.var (by walk_at "vr") (Rd.var (by walk_at "vr") (⟨_, _, _, _, rfl, (by walk_at "hp"), T.k_Scheme, T.n_Scheme_parts, (by walk_at "sfl"), ?_⟩))))
      rw [fS_put]
      exact k _ _ (by walk_at "frm") (by assumption) L2.upd_same (by walk_at "hp")
/-! _law_source -/
theorem sc_l_source : FnScope ["_law_script", "_law_turn", "_law_cell", "_law_number", "_law_seed"] ["_law_script", "_law_turn"] (defScope s_l_source) := ⟨rfl, rfl, rfl, by decide +kernel, rfl, by decide +kernel, by decide +kernel⟩
abbrev sp_l_source (K : PySem.W.Frag) (A : Adr) : Sp := spSource K
theorem ok_l_source (T : Txt w K mg A) : FnOk P w K mg base CX0 1 A.f_l_source A.d_l_source ["_law_script", "_law_turn"] (sp_l_source K A) := by
  refine T.F_l_source.ok sc_l_source (fun vs H Q E h => ?_) (fun cdv Ar outer s H vs Q E hr h => ?_)
  · obtain ⟨a, ns, t, rfl, ha, ht, ht2, k⟩ := h
    rfl
  · obtain ⟨a, ns, t, rfl, ha, ht, ht2, k⟩ := h
    have hu := hu_of hr
    have t_q_PART_NAMES := T.q_PART_NAMES
    have t_q_PART_WORDS_slot := T.q_PART_WORDS_slot
    have t_d_PART_WORDS_slot := T.d_PART_WORDS_slot
    have t_q_PART_WORDS_empty := T.q_PART_WORDS_empty
    have t_d_PART_WORDS_empty := T.d_PART_WORDS_empty
    have t_q_PART_WORDS_when := T.q_PART_WORDS_when
    have t_d_PART_WORDS_when := T.d_PART_WORDS_when
    have t_q_MEASURES := T.q_MEASURES
    have t_q_SIGNS := T.q_SIGNS
    have t_q_PLAIN_FULLS := T.q_PLAIN_FULLS
    have t_i_Form := T.i_Form
    have t_kt_Form_Form := T.kt_Form_Form
    have t_kt_int_Form := T.kt_int_Form
    have t_nf_Form_Form := T.nf_Form_Form
    have t_nf_int_Form := T.nf_int_Form
    have t_k_Form := T.k_Form
    have t_k_Scheme := T.k_Scheme
    refine ⟨_, (pss_cons (ps_set (i := 2) sc_l_source.nd rfl (Or.inl rfl) pe_int)
      (pss_cons (ps_if (pt_cmpR op_lt (pv 1) (pe_callB call_len_seq (by rfl) T.n_len PySem.boot_len (pa_cons (pv 0) pa_nil)) (nomark _)) (pss_one (ps_set (i := 2) sc_l_source.nd rfl (Or.inl rfl) (pe_ix (Rd.ixLK rfl) (pv 0) (pv 1) (fun _ _ => rfl)))) pss_nil)
      (pss_cons (ps_set (i := 3) sc_l_source.nd rfl (Or.inl rfl) (pe_callB call_abs (by rfl) T.n_abs (by decide +kernel) (pa_cons (pv 2) pa_nil))) (pss_cons (ps_set (i := 4) sc_l_source.nd rfl (Or.inl rfl) (pe_op op_mod (pe_callTy call_int1 (by rfl) T.n_int (by decide +kernel) (pa_cons (pe_op op_add (pe_op op_add (pe_op op_mulW (pe_op op_mod (pe_callTy call_int1 (by rfl) T.n_int (by decide +kernel) (pa_cons (pv 3) pa_nil)) pe_int) pe_int) (pe_op op_mulW pe_int (pv 1))) pe_int) pa_nil)) pe_int)) (pss_cons (ps_if (pt_cmpR op_lt (pv 3) (pe_op op_pow pe_int pe_int) (nomark _)) (pss_one (ps_set (i := 3) sc_l_source.nd rfl (Or.inl rfl) pe_int)) pss_nil) (pss_one (ps_ret (pe_lst (pa_cons (pv 3) (pa_cons (pv 4) pa_nil)))))))))), ?_⟩
    try dsimp only [L2.cxOf, L2.Cx.nox, L2.Cx.wish]
    with_reducible refine Rd.seq (Rd.asg (Rd.c (Rd.name (Rd.seq (Rd.ifS (Rd.test (Rd.op (Rd.var (by walk_at "vr") (Rd.cB (Rd.cons (Rd.var (by walk_at "vr") ?_)))))))))))
    with_reducible refine Rd.nil (⟨_, _, rfl, (by walk_at "hpq"), (Rd.i0 (Rd.bl ?_))⟩)
    refine Rd.ite (fun h0 => ?_) (fun h0 => ?_)
    · try simp only [decide_eq_true_eq, Bool.not_eq_true', decide_eq_false_iff_not, Bool.not_eq_true, Bool.not_eq_eq_eq_not, Bool.not_true, Bool.not_false] at h0
      with_reducible refine Rd.asg (Rd.op (Rd.var (by walk_at "vr") (Rd.var (by walk_at "vr") ?_)))
      obtain ⟨z, hz⟩ := atI_map ht (by simpa using h0)
      refine Rd.ixL (by walk_at "hpl") hz ?_
      with_reducible refine Rd.name (Rd.seq (Rd.asg (Rd.cB (Rd.cons (Rd.var (by walk_at "vr") (Rd.nil (⟨_, rfl, (Rd.name (Rd.seq (Rd.asg (Rd.op ?_))))⟩)))))))
      with_reducible refine Rd.cB (Rd.cons (Rd.op (Rd.op (Rd.op (Rd.op (Rd.cB (Rd.cons (Rd.var (by walk_at "vr") (Rd.nil ((.inl ⟨_, rfl, (Rd.c ?_)⟩)))))))))))
      with_reducible refine Rd.iC (by walk_at "sc") (Rd.c (Rd.iC (by walk_at "scm") (Rd.op (Rd.c (Rd.var (by walk_at "vr") (Rd.iC (by walk_at "scm") (Rd.i0 (Rd.c (Rd.i0 (Rd.nil ((.inl ⟨_, rfl, ?_⟩))))))))))))
      with_reducible refine Rd.c (Rd.iC (by walk_at "sc") (Rd.name (Rd.seq (Rd.ifS (Rd.test (Rd.op (Rd.var (by walk_at "vr") (Rd.op (Rd.c (Rd.c (Rd.iC (by walk_at "scp") ?_)))))))))))
      with_reducible refine Rd.i0 (Rd.bl ?_)
      refine Rd.ite (fun h1 => ?_) (fun h1 => ?_)
      · try simp only [decide_eq_true_eq, Bool.not_eq_true', decide_eq_false_iff_not, Bool.not_eq_true, Bool.not_eq_eq_eq_not, Bool.not_true, Bool.not_false] at h1
        with_reducible refine Rd.asg (Rd.c (Rd.name (Rd.ret (Rd.lst (Rd.cons (Rd.var (by walk_at "vr") (Rd.cons (Rd.var (by walk_at "vr") (Rd.nil (Rd.laid (by walk_at "ll") ?_))))))))))
        intro p0 np0
        exact k _ _ np0 ⟨_, _, rfl, (by walk_at "sc"), (by walk_at "sc"), (by walk_at "sc")⟩
      · try simp only [decide_eq_true_eq, Bool.not_eq_true', decide_eq_false_iff_not, Bool.not_eq_true, Bool.not_eq_eq_eq_not, Bool.not_true, Bool.not_false, Int.not_lt, Int.not_le, Decidable.not_not] at h1
        with_reducible refine Rd.next (Rd.ret (Rd.lst (Rd.cons (Rd.var (by walk_at "vr") (Rd.cons (Rd.var (by walk_at "vr") (Rd.nil (Rd.laid (by walk_at "ll") ?_))))))))
        intro p0 np0
        exact k _ _ np0 ⟨_, _, rfl, (by walk_at "sc"), (by walk_at "sc"), (by walk_at "sc")⟩
    · try simp only [decide_eq_true_eq, Bool.not_eq_true', decide_eq_false_iff_not, Bool.not_eq_true, Bool.not_eq_eq_eq_not, Bool.not_true, Bool.not_false, Int.not_lt, Int.not_le, Decidable.not_not] at h0
      with_reducible refine Rd.next (Rd.seq (Rd.asg (Rd.cB (Rd.cons (Rd.var (by walk_at "vr") (Rd.nil (⟨_, rfl, (Rd.name (Rd.seq (Rd.asg (Rd.op ?_))))⟩)))))))
      with_reducible refine Rd.cB (Rd.cons (Rd.op (Rd.op (Rd.op (Rd.op (Rd.cB (Rd.cons (Rd.var (by walk_at "vr") (Rd.nil ((.inl ⟨_, rfl, (Rd.c ?_)⟩)))))))))))
      with_reducible refine Rd.iC (by walk_at "sc") (Rd.c (Rd.iC (by walk_at "scm") (Rd.op (Rd.c (Rd.var (by walk_at "vr") (Rd.iC (by walk_at "scm") (Rd.i0 (Rd.c (Rd.i0 (Rd.nil ((.inl ⟨_, rfl, ?_⟩))))))))))))
      with_reducible refine Rd.c (Rd.iC (by walk_at "sc") (Rd.name (Rd.seq (Rd.ifS (Rd.test (Rd.op (Rd.var (by walk_at "vr") (Rd.op (Rd.c (Rd.c (Rd.iC (by walk_at "scp") ?_)))))))))))
      with_reducible refine Rd.i0 (Rd.bl ?_)
      refine Rd.ite (fun h1 => ?_) (fun h1 => ?_)
      · try simp only [decide_eq_true_eq, Bool.not_eq_true', decide_eq_false_iff_not, Bool.not_eq_true, Bool.not_eq_eq_eq_not, Bool.not_true, Bool.not_false] at h1
        with_reducible refine Rd.asg (Rd.c (Rd.name (Rd.ret (Rd.lst (Rd.cons (Rd.var (by walk_at "vr") (Rd.cons (Rd.var (by walk_at "vr") (Rd.nil (Rd.laid (by walk_at "ll") ?_))))))))))
        intro p0 np0
        exact k _ _ np0 ⟨_, _, rfl, (by walk_at "sc"), (by walk_at "sc"), (by walk_at "sc")⟩
      · try simp only [decide_eq_true_eq, Bool.not_eq_true', decide_eq_false_iff_not, Bool.not_eq_true, Bool.not_eq_eq_eq_not, Bool.not_true, Bool.not_false, Int.not_lt, Int.not_le, Decidable.not_not] at h1
        with_reducible refine Rd.next (Rd.ret (Rd.lst (Rd.cons (Rd.var (by walk_at "vr") (Rd.cons (Rd.var (by walk_at "vr") (Rd.nil (Rd.laid (by walk_at "ll") ?_))))))))
        intro p0 np0
        exact k _ _ np0 ⟨_, _, rfl, (by walk_at "sc"), (by walk_at "sc"), (by walk_at "sc")⟩
/-! _law_draw -/
theorem sc_l_draw : FnScope ["_law_source_here", "_law_amount", "_law_digit", "_law_found"] ["_law_source_here", "_law_amount"] (defScope s_l_draw) := ⟨rfl, rfl, rfl, by decide +kernel, rfl, by decide +kernel, by decide +kernel⟩
abbrev sp_l_draw (K : PySem.W.Frag) (A : Adr) : Sp := spDraw
theorem ok_l_draw (T : Txt w K mg A) : FnOk P w K mg base CX0 1 A.f_l_draw A.d_l_draw ["_law_source_here", "_law_amount"] (sp_l_draw K A) := by
  refine T.F_l_draw.ok sc_l_draw (fun vs H Q E h => ?_) (fun cdv Ar outer s H vs Q E hr h => ?_)
  · obtain ⟨a, o, m, rfl, ha, ho, hm, hm2, k⟩ := h
    rfl
  · obtain ⟨a, o, m, rfl, ha, ho, hm, hm2, k⟩ := h
    have hu := hu_of hr
    have t_q_PART_NAMES := T.q_PART_NAMES
    have t_q_PART_WORDS_slot := T.q_PART_WORDS_slot
    have t_d_PART_WORDS_slot := T.d_PART_WORDS_slot
    have t_q_PART_WORDS_empty := T.q_PART_WORDS_empty
    have t_d_PART_WORDS_empty := T.d_PART_WORDS_empty
    have t_q_PART_WORDS_when := T.q_PART_WORDS_when
    have t_d_PART_WORDS_when := T.d_PART_WORDS_when
    have t_q_MEASURES := T.q_MEASURES
    have t_q_SIGNS := T.q_SIGNS
    have t_q_PLAIN_FULLS := T.q_PLAIN_FULLS
    have t_i_Form := T.i_Form
    have t_kt_Form_Form := T.kt_Form_Form
    have t_kt_int_Form := T.kt_int_Form
    have t_nf_Form_Form := T.nf_Form_Form
    have t_nf_int_Form := T.nf_int_Form
    have t_k_Form := T.k_Form
    have t_k_Scheme := T.k_Scheme
    obtain ⟨x, y, rfl, hx, hy, hy2⟩ := ho
    have e1 := Int.emod_nonneg x (show m ≠ 0 by first | omega | decide)
    have e2 := Int.emod_lt_of_pos x hm
    have e3 := Int.ediv_nonneg hx (show 0 ≤ m by first | omega | decide)
    refine ⟨_, (pss_cons (ps_if (pt_cmpR op_gt (pe_ix (Rd.ixLK rfl) (pv 0) pe_int (fun _ _ => rfl)) pe_int (nomark _)) (pss_cons (ps_set (i := 2) sc_l_draw.nd rfl (Or.inl rfl) (pe_op op_mod (pe_callTy call_int1 (by rfl) T.n_int (by decide +kernel) (pa_cons (pe_ix (Rd.ixLK rfl) (pv 0) pe_int (fun _ _ => rfl)) pa_nil)) (pv 1)))
      (pss_cons (ps_asg (pe_op op_fdivW (pe_ix (Rd.ixLK rfl) (pv 0) pe_int (fun _ _ => rfl)) (pv 1)) (pg_sub (pv 0) pe_int set_list))
      (pss_one (ps_ret (pv 2))))) pss_nil)
      (pss_cons (ps_asg (pe_op op_mod (pe_callTy call_int1 (by rfl) T.n_int (by decide +kernel) (pa_cons (pe_op op_add (pe_op op_mulW (pe_ix (Rd.ixLK rfl) (pv 0) pe_int (fun _ _ => rfl)) pe_int) pe_int) pa_nil)) pe_int) (pg_sub (pv 0) pe_int set_list))
      (pss_cons (ps_set (i := 3) sc_l_draw.nd rfl (Or.inl rfl) (pe_op op_fdivW (pe_op op_mod (pe_callTy call_int1 (by rfl) T.n_int (by decide +kernel) (pa_cons (pe_op op_mulW (pe_ix (Rd.ixLK rfl) (pv 0) pe_int (fun _ _ => rfl)) (pe_ix (Rd.ixLK rfl) (pv 0) pe_int (fun _ _ => rfl))) pa_nil)) pe_int) pe_int))
      (pss_cons (ps_if (pt_cmpR op_gt (pv 1) (pe_op op_pow pe_int pe_int) (nomark _)) (pss_cons (ps_asg (pe_op op_mod (pe_callTy call_int1 (by rfl) T.n_int (by decide +kernel) (pa_cons (pe_op op_add (pe_op op_mulW (pe_ix (Rd.ixLK rfl) (pv 0) pe_int (fun _ _ => rfl)) pe_int) pe_int) pa_nil)) pe_int) (pg_sub (pv 0) pe_int set_list))
      (pss_one (ps_set (i := 3) sc_l_draw.nd rfl (Or.inl rfl) (pe_op op_add (pe_op op_mulW (pv 3) pe_int) (pe_op op_fdivW (pe_op op_mod (pe_callTy call_int1 (by rfl) T.n_int (by decide +kernel) (pa_cons (pe_op op_mulW (pe_ix (Rd.ixLK rfl) (pv 0) pe_int (fun _ _ => rfl)) (pe_ix (Rd.ixLK rfl) (pv 0) pe_int (fun _ _ => rfl))) pa_nil)) pe_int) pe_int))))) pss_nil)
      (pss_one (ps_ret (pe_op op_mod (pe_callTy call_int1 (by rfl) T.n_int (by decide +kernel) (pa_cons (pv 3) pa_nil)) (pv 1)))))))), ?_⟩
    try dsimp only [L2.cxOf, L2.Cx.nox, L2.Cx.wish]
    with_reducible refine Rd.seq (Rd.ifS (Rd.test (Rd.op (Rd.op (Rd.var (by walk_at "vr") (Rd.c (Rd.ixL (by walk_at "hpl") (by walk_at "vr") (Rd.c (Rd.i0 (Rd.bl ?_))))))))))
    refine Rd.ite (fun h0 => ?_) (fun h0 => ?_)
    · try simp only [decide_eq_true_eq, Bool.not_eq_true', decide_eq_false_iff_not, Bool.not_eq_true, Bool.not_eq_eq_eq_not, Bool.not_true, Bool.not_false] at h0
      with_reducible refine Rd.seq (Rd.asg (Rd.op (Rd.cB (Rd.cons (Rd.op (Rd.var (by walk_at "vr") (Rd.c (Rd.ixL (by walk_at "hpl") (by walk_at "vr") (Rd.nil ((.inl ⟨_, rfl, (Rd.var (by walk_at "vr") ?_)⟩)))))))))))
      with_reducible refine Rd.iC (by walk_at "sc") (Rd.name (Rd.seq (Rd.asg (Rd.op (Rd.op (Rd.var (by walk_at "vr") (Rd.c (Rd.ixL (by walk_at "hpl") (by walk_at "vr") (Rd.var (by walk_at "vr") (Rd.iC (by walk_at "scd") (Rd.sub ?_)))))))))))
      with_reducible refine Rd.var (by walk_at "vr") (Rd.c (Rd.setL (by walk_at "hp") (by walk_at "ixn") (Rd.ret (Rd.var (by walk_at "vr") ?_))))
      exact k _ _ (by walk_at "sc") (by walk_at "sc") ⟨_, _, rfl, (by walk_at "sc"), (by walk_at "sc"), (by walk_at "sc")⟩
    · try simp only [decide_eq_true_eq, Bool.not_eq_true', decide_eq_false_iff_not, Bool.not_eq_true, Bool.not_eq_eq_eq_not, Bool.not_true, Bool.not_false, Int.not_lt, Int.not_le, Decidable.not_not] at h0
      with_reducible refine Rd.next (Rd.seq (Rd.asg (Rd.op (Rd.cB (Rd.cons (Rd.op (Rd.op (Rd.op (Rd.var (by walk_at "vr") (Rd.c (Rd.ixL (by walk_at "hpl") (by walk_at "vr") ?_)))))))))))
      with_reducible refine Rd.c (Rd.iC (by walk_at "scm") (Rd.c (Rd.i0 (Rd.nil ((.inl ⟨_, rfl, (Rd.c (Rd.iC (by walk_at "sc") (Rd.sub (Rd.var (by walk_at "vr") (Rd.c (Rd.setL (by walk_at "hp") (by walk_at "ixn") ?_))))))⟩))))))
      with_reducible refine Rd.seq (Rd.asg (Rd.op (Rd.op (Rd.cB (Rd.cons (Rd.op (Rd.op (Rd.var (by walk_at "vr") (Rd.c (Rd.ixL (by walk_at "hpl") (by walk_at "vr") (Rd.op ?_)))))))))))
      with_reducible refine Rd.var (by walk_at "vr") (Rd.c (Rd.ixL (by walk_at "hpl") (by walk_at "vr") (Rd.iC (by walk_at "scm") (Rd.nil ((.inl ⟨_, rfl, (Rd.c (Rd.iC (by walk_at "sc") (Rd.c (Rd.iC (by walk_at "scd") (Rd.name (Rd.seq ?_))))))⟩))))))
      with_reducible refine Rd.ifS (Rd.test (Rd.op (Rd.var (by walk_at "vr") (Rd.op (Rd.c (Rd.c (Rd.iC (by walk_at "scp") (Rd.i0 (Rd.bl ?_)))))))))
      refine Rd.ite (fun h1 => ?_) (fun h1 => ?_)
      · try simp only [decide_eq_true_eq, Bool.not_eq_true', decide_eq_false_iff_not, Bool.not_eq_true, Bool.not_eq_eq_eq_not, Bool.not_true, Bool.not_false] at h1
        with_reducible refine Rd.seq (Rd.asg (Rd.op (Rd.cB (Rd.cons (Rd.op (Rd.op (Rd.op (Rd.var (by walk_at "vr") (Rd.c (Rd.ixL (by walk_at "hpl") (by walk_at "vr") (Rd.c ?_)))))))))))
        with_reducible refine Rd.iC (by walk_at "scm") (Rd.c (Rd.i0 (Rd.nil ((.inl ⟨_, rfl, (Rd.c (Rd.iC (by walk_at "sc") (Rd.sub (Rd.var (by walk_at "vr") (Rd.c (Rd.setL (by walk_at "hp") (by walk_at "ixn") (Rd.asg ?_)))))))⟩)))))
        with_reducible refine Rd.op (Rd.op (Rd.var (by walk_at "vr") (Rd.c (Rd.iC (by walk_at "scm") (Rd.op (Rd.op (Rd.cB (Rd.cons (Rd.op (Rd.op (Rd.var (by walk_at "vr") ?_)))))))))))
        with_reducible refine Rd.c (Rd.ixL (by walk_at "hpl") (by walk_at "vr") (Rd.op (Rd.var (by walk_at "vr") (Rd.c (Rd.ixL (by walk_at "hpl") (by walk_at "vr") (Rd.iC (by walk_at "scm") (Rd.nil ((.inl ⟨_, rfl, (Rd.c (Rd.iC (by walk_at "sc") (Rd.c ?_)))⟩)))))))))
        with_reducible refine Rd.iC (by walk_at "scd") (Rd.i0 (Rd.name (Rd.ret (Rd.op (Rd.cB (Rd.cons (Rd.var (by walk_at "vr") (Rd.nil ((.inl ⟨_, rfl, (Rd.var (by walk_at "vr") (Rd.iC (by walk_at "sc") ?_))⟩))))))))))
        (repeat rw [L2.upd_upd])
        exact k _ _ (Int.emod_nonneg _ (by first | omega | decide)) (Int.emod_lt_of_pos _ hm) ⟨_, _, rfl, hx, (by first | omega | decide), (by first | omega | decide)⟩
      · try simp only [decide_eq_true_eq, Bool.not_eq_true', decide_eq_false_iff_not, Bool.not_eq_true, Bool.not_eq_eq_eq_not, Bool.not_true, Bool.not_false, Int.not_lt, Int.not_le, Decidable.not_not] at h1
        with_reducible refine Rd.next (Rd.ret (Rd.op (Rd.cB (Rd.cons (Rd.var (by walk_at "vr") (Rd.nil ((.inl ⟨_, rfl, (Rd.var (by walk_at "vr") (Rd.iC (by walk_at "sc") ?_))⟩))))))))
        (repeat rw [L2.upd_upd])
        exact k _ _ (Int.emod_nonneg _ (by first | omega | decide)) (Int.emod_lt_of_pos _ hm) ⟨_, _, rfl, hx, (by first | omega | decide), (by first | omega | decide)⟩
/-! _law_pick -/
theorem sc_l_pick : FnScope ["_law_source_here", "_law_items"] ["_law_source_here", "_law_items"] (defScope s_l_pick) := ⟨rfl, rfl, rfl, by decide +kernel, rfl, by decide +kernel, by decide +kernel⟩
abbrev sp_l_pick (K : PySem.W.Frag) (A : Adr) : Sp := fun vs H Q _ => ∃ (a l : Addr) (o : HO) (xs : List V), vs = [.ref a, .ref l] ∧ H a = some o ∧ SrcO o ∧ H l = some (.lst xs) ∧ 0 < xs.length ∧ xs.length ≤ 100 ∧ l ≠ a ∧ ∀ (v : V) (o' : HO) (H' : Hp), v ∈ xs → Frm a H H' → H' a = some o' → SrcO o' → Q v H'
theorem ok_l_pick (T : Txt w K mg A) : FnOk P w K mg base CX0 2 A.f_l_pick A.d_l_pick ["_law_source_here", "_law_items"] (sp_l_pick K A) := by
  refine T.F_l_pick.ok sc_l_pick (fun vs H Q E h => ?_) (fun cdv Ar outer s H vs Q E hr h => ?_)
  · obtain ⟨a, l, o, xs, rfl, ha, ho, hl, h0, h1, hne, k⟩ := h
    rfl
  · obtain ⟨a, l, o, xs, rfl, ha, ho, hl, h0, h1, hne, k⟩ := h
    have hu := hu_of hr
    have t_q_PART_NAMES := T.q_PART_NAMES
    have t_q_PART_WORDS_slot := T.q_PART_WORDS_slot
    have t_d_PART_WORDS_slot := T.d_PART_WORDS_slot
    have t_q_PART_WORDS_empty := T.q_PART_WORDS_empty
    have t_d_PART_WORDS_empty := T.d_PART_WORDS_empty
    have t_q_PART_WORDS_when := T.q_PART_WORDS_when
    have t_d_PART_WORDS_when := T.d_PART_WORDS_when
    have t_q_MEASURES := T.q_MEASURES
    have t_q_SIGNS := T.q_SIGNS
    have t_q_PLAIN_FULLS := T.q_PLAIN_FULLS
    have t_i_Form := T.i_Form
    have t_kt_Form_Form := T.kt_Form_Form
    have t_kt_int_Form := T.kt_int_Form
    have t_nf_Form_Form := T.nf_Form_Form
    have t_nf_int_Form := T.nf_int_Form
    have t_k_Form := T.k_Form
    have t_k_Scheme := T.k_Scheme
    refine ⟨_, (pss_one (ps_ret (pe_ix (Rd.ixLK rfl) (pv 1) (pe_call (ok_l_draw T) (hr.mono (by decide)) (by rfl) T.m_l_draw T.F_l_draw.kp T.b_l_draw .nil pass0 (pa_cons (pv 0) (pa_cons (pe_callB call_len_seq (by rfl) T.n_len PySem.boot_len (pa_cons (pv 1) pa_nil)) pa_nil))) (fun _ _ => rfl)))), ?_⟩
    try dsimp only [L2.cxOf, L2.Cx.nox, L2.Cx.wish]
    with_reducible refine Rd.ret (Rd.op (Rd.var (by walk_at "vr") (Rd.call (Rd.cons (Rd.var (by walk_at "vr") (Rd.cons (Rd.cB (Rd.cons (Rd.var (by walk_at "vr") (Rd.nil (⟨_, _, rfl, (by walk_at "hpq"), ?_⟩)))))))))))
    with_reducible refine Rd.nil ?_
    refine ⟨_, _, _, rfl, (by walk_at "hp"), (by walk_at "sc"), (by walk_at "sc"), (by walk_at "sc"), fun d1 o1 d1a d1b s1 => ?_⟩
    refine Rd.pickAny (by walk_at "hpl") d1a d1b (fun v hv => ?_)
    exact k _ _ _ hv (by walk_at "frm") (by walk_at "hp") (by assumption)
/-! _law_limit -/
theorem sc_l_limit : FnScope ["_law_source_here", "_law_some"] ["_law_source_here"] (defScope s_l_limit) := ⟨rfl, rfl, rfl, by decide +kernel, rfl, by decide +kernel, by decide +kernel⟩
abbrev sp_l_limit (K : PySem.W.Frag) (A : Adr) : Sp := fun vs H Q _ => ∃ (a : Addr) (o : HO), vs = [.ref a] ∧ H a = some o ∧ SrcO o ∧ ∀ (v : V) (o' : HO) (H' : Hp), Frm a H H' → H' a = some o' → SrcO o' → Lim H' v → Q v H'
theorem ok_l_limit (T : Txt w K mg A) : FnOk P w K mg base CX0 3 A.f_l_limit A.d_l_limit ["_law_source_here"] (sp_l_limit K A) := by
  refine T.F_l_limit.ok sc_l_limit (fun vs H Q E h => ?_) (fun cdv Ar outer s H vs Q E hr h => ?_)
  · obtain ⟨a, o, rfl, ha, ho, k⟩ := h
    rfl
  · obtain ⟨a, o, rfl, ha, ho, k⟩ := h
    have hu := hu_of hr
    have t_q_PART_NAMES := T.q_PART_NAMES
    have t_q_PART_WORDS_slot := T.q_PART_WORDS_slot
    have t_d_PART_WORDS_slot := T.d_PART_WORDS_slot
    have t_q_PART_WORDS_empty := T.q_PART_WORDS_empty
    have t_d_PART_WORDS_empty := T.d_PART_WORDS_empty
    have t_q_PART_WORDS_when := T.q_PART_WORDS_when
    have t_d_PART_WORDS_when := T.d_PART_WORDS_when
    have t_q_MEASURES := T.q_MEASURES
    have t_q_SIGNS := T.q_SIGNS
    have t_q_PLAIN_FULLS := T.q_PLAIN_FULLS
    have t_i_Form := T.i_Form
    have t_kt_Form_Form := T.kt_Form_Form
    have t_kt_int_Form := T.kt_int_Form
    have t_nf_Form_Form := T.nf_Form_Form
    have t_nf_int_Form := T.nf_int_Form
    have t_k_Form := T.k_Form
    have t_k_Scheme := T.k_Scheme
    refine ⟨_, (pss_cons (ps_set (i := 1) sc_l_limit.nd rfl (Or.inl rfl) (pe_lst (pa_cons (pe_tup (pa_cons pe_int (pa_cons pe_int pa_nil))) (pa_cons (pe_tup (pa_cons pe_int (pa_cons (pe_un un_neg pe_int) pa_nil))) (pa_cons (pe_tup (pa_cons pe_int (pa_cons pe_int pa_nil))) (pa_cons (pe_tup (pa_cons pe_int (pa_cons pe_int pa_nil))) (pa_cons (pe_tup (pa_cons pe_int (pa_cons pe_int pa_nil))) (pa_cons (pe_tup (pa_cons pe_int (pa_cons pe_int pa_nil))) (pa_cons (pe_tup (pa_cons pe_int (pa_cons pe_int pa_nil))) (pa_cons (pe_tup (pa_cons pe_int (pa_cons pe_int pa_nil))) pa_nil))))))))))
      (pss_cons (ps_expr (pe_bm PySem.F.plainAttrs_list PySem.F.slot_list_append PySem.F.type_list_append mt_append (pv 1) (pa_cons (pe_tup (pa_cons (pe_call (ok_l_draw T) (hr.mono (by decide)) (by rfl) T.m_l_draw T.F_l_draw.kp T.b_l_draw .nil pass0 (pa_cons (pv 0) (pa_cons pe_int pa_nil))) (pa_cons (pe_op op_sub (pe_call (ok_l_draw T) (hr.mono (by decide)) (by rfl) T.m_l_draw T.F_l_draw.kp T.b_l_draw .nil pass0 (pa_cons (pv 0) (pa_cons pe_int pa_nil))) pe_int) pa_nil))) pa_nil)))
      (pss_cons (ps_expr (pe_bm PySem.F.plainAttrs_list PySem.F.slot_list_append PySem.F.type_list_append mt_append (pv 1) (pa_cons (pe_tup (pa_cons pe_int (pa_cons (pe_op op_sub (pe_call (ok_l_draw T) (hr.mono (by decide)) (by rfl) T.m_l_draw T.F_l_draw.kp T.b_l_draw .nil pass0 (pa_cons (pv 0) (pa_cons pe_int pa_nil))) pe_int) pa_nil))) pa_nil)))
      (pss_one (ps_ret (pe_call (ok_l_pick T) (hr.mono (by decide)) (by rfl) T.m_l_pick T.F_l_pick.kp T.b_l_pick .nil pass0 (pa_cons (pv 0) (pa_cons (pv 1) pa_nil)))))))), ?_⟩
    try dsimp only [L2.cxOf, L2.Cx.nox, L2.Cx.wish]
    with_reducible refine Rd.seq (Rd.asg (Rd.lst (Rd.cons (Rd.tup (Rd.cons (Rd.c (Rd.cons (Rd.c (Rd.nil (Rd.laid (by walk_at "ll") ?_))))))))))
    intro p1 np1
    have ap_p1_a : p1 ≠ a := ne_none' np1 (by walk_at "hp")
    with_reducible refine Rd.cons (Rd.tup (Rd.cons (Rd.c (Rd.cons (Rd.un (Rd.c (Rd.iU (Rd.nil (Rd.laid (by walk_at "ll") ?_)))))))))
    intro p2 np2
    have ap_p2_a : p2 ≠ a := ne_none' np2 (by walk_at "hp")
    with_reducible refine Rd.cons (Rd.tup (Rd.cons (Rd.c (Rd.cons (Rd.c (Rd.nil (Rd.laid (by walk_at "ll") ?_)))))))
    intro p3 np3
    have ap_p3_a : p3 ≠ a := ne_none' np3 (by walk_at "hp")
    with_reducible refine Rd.cons (Rd.tup (Rd.cons (Rd.c (Rd.cons (Rd.c (Rd.nil (Rd.laid (by walk_at "ll") ?_)))))))
    intro p4 np4
    have ap_p4_a : p4 ≠ a := ne_none' np4 (by walk_at "hp")
    with_reducible refine Rd.cons (Rd.tup (Rd.cons (Rd.c (Rd.cons (Rd.c (Rd.nil (Rd.laid (by walk_at "ll") ?_)))))))
    intro p5 np5
    have ap_p5_a : p5 ≠ a := ne_none' np5 (by walk_at "hp")
    with_reducible refine Rd.cons (Rd.tup (Rd.cons (Rd.c (Rd.cons (Rd.c (Rd.nil (Rd.laid (by walk_at "ll") ?_)))))))
    intro p6 np6
    have ap_p6_a : p6 ≠ a := ne_none' np6 (by walk_at "hp")
    with_reducible refine Rd.cons (Rd.tup (Rd.cons (Rd.c (Rd.cons (Rd.c (Rd.nil (Rd.laid (by walk_at "ll") ?_)))))))
    intro p7 np7
    have ap_p7_a : p7 ≠ a := ne_none' np7 (by walk_at "hp")
    with_reducible refine Rd.cons (Rd.tup (Rd.cons (Rd.c (Rd.cons (Rd.c (Rd.nil (Rd.laid (by walk_at "ll") ?_)))))))
    intro p8 np8
    have ap_p8_a : p8 ≠ a := ne_none' np8 (by walk_at "hp")
    with_reducible refine Rd.nil (Rd.laid (by walk_at "ll") ?_)
    intro p0 np0
    have ap_p0_a : p0 ≠ a := ne_none' np0 (by walk_at "hp")
    with_reducible refine Rd.name ?_
    refine Rd.comp (fun Hx => Same H Hx ∧ Hx p0 = some (.lst [V.ref p1, V.ref p2, V.ref p3, V.ref p4, V.ref p5, V.ref p6, V.ref p7, V.ref p8]) ∧ p0 ≠ a ∧ H p0 = none ∧ ∀ v ∈ [V.ref p1, V.ref p2, V.ref p3, V.ref p4, V.ref p5, V.ref p6, V.ref p7, V.ref p8], Lim Hx v) ⟨(by walk_at "frm"), (by walk_at "hp"), ap_p0_a, (by walk_at "nn"), ?_⟩ (fun H1 ⟨S1, l1, ne1, fr1, m1⟩ => ?_)
    · intro v hv
      simp only [List.mem_cons, List.not_mem_nil, or_false] at hv
      rcases hv with rfl | rfl | rfl | rfl | rfl | rfl | rfl | rfl <;> exact ⟨_, _, _, rfl, (by walk_at "hp"), (by omega), (by omega), (by omega), (by omega)⟩
    have ha1 := S1 _ _ ha
    clear np0 np1 np2 np3 np4 np5 np6 np7 np8
    with_reducible refine Rd.seq (Rd.drop ?_)
    try unfold tBM
    with_reducible refine Rd.var (by walk_at "vr") ?_
    refine ⟨Or.inl ⟨rfl, _, (by walk_at "hpl")⟩, ?_⟩
    with_reducible refine Rd.cons (Rd.tup (Rd.cons (Rd.call (Rd.cons (Rd.var (by walk_at "vr") (Rd.cons (Rd.c (Rd.nil ?_))))))))
    refine ⟨_, _, _, rfl, (by walk_at "hp"), (by walk_at "sc"), (by walk_at "sc"), (by walk_at "sc"), fun d1 o1 d1a d1b s1 => ?_⟩
    with_reducible refine Rd.cons (Rd.op (Rd.call (Rd.cons (Rd.var (by walk_at "vr") (Rd.cons (Rd.c (Rd.nil ?_)))))))
    refine ⟨_, _, _, rfl, (by walk_at "hp"), (by walk_at "sc"), (by walk_at "sc"), (by walk_at "sc"), fun d2 o2 d2a d2b s2 => ?_⟩
    with_reducible refine Rd.c (Rd.i0 (Rd.nil (Rd.laid (by walk_at "ll") ?_)))
    intro p9 np9
    have ap_p9_a : p9 ≠ a := ne_none' np9 (by walk_at "hp")
    with_reducible refine Rd.nil ?_
    refine ⟨_, _, _, rfl, rfl, (by walk_at "hp"), (by walk_at "sz"), ?_⟩
    with_reducible refine Rd.seq (Rd.drop ?_)
    try unfold tBM
    with_reducible refine Rd.var (by walk_at "vr") ?_
    refine ⟨Or.inl ⟨rfl, _, (by walk_at "hpl")⟩, ?_⟩
    with_reducible refine Rd.cons (Rd.tup (Rd.cons (Rd.c (Rd.cons (Rd.op (Rd.call (Rd.cons (Rd.var (by walk_at "vr") (Rd.cons (Rd.c (Rd.nil ?_)))))))))))
    refine ⟨_, _, _, rfl, (by walk_at "hp"), (by walk_at "sc"), (by walk_at "sc"), (by walk_at "sc"), fun d3 o3 d3a d3b s3 => ?_⟩
    with_reducible refine Rd.c (Rd.i0 (Rd.nil (Rd.laid (by walk_at "ll") ?_)))
    intro p10 np10
    have ap_p10_a : p10 ≠ a := ne_none' np10 (by walk_at "hp")
    with_reducible refine Rd.nil ?_
    refine ⟨_, _, _, rfl, rfl, (by walk_at "hp"), (by walk_at "sz"), ?_⟩
    with_reducible refine Rd.ret (Rd.call (Rd.cons (Rd.var (by walk_at "vr") (Rd.cons (Rd.var (by walk_at "vr") (Rd.nil ?_))))))
    refine ⟨_, _, _, _, rfl, (by walk_at "hp"), (by walk_at "sc"), (by walk_at "hp"), (by first | with_reducible assumption | walk_at "ll0"), (by first | with_reducible assumption | walk_at "ll"), (by walk_at "ne"), fun v4 o4 H4 m4 F4 r4 so4 => ?_⟩
    refine k _ _ _ (by walk_at "frm") (by walk_at "hp") (by assumption) ?_
    simp only [List.mem_append, List.mem_singleton] at m4
    rcases m4 with (m4 | rfl) | rfl
    · obtain ⟨p, s, b, rfl, hp, hb⟩ := m1 _ m4
      obtain ⟨x0, y0, rfl, _⟩ := ho
      have na : p ≠ a := L2.ne_of hp ha1 (by intro z; cases z)
      have nl : p ≠ p0 := L2.ne_of hp l1 (by intro z; cases z)
      exact ⟨p, s, b, rfl, (by walk_at "hp"), hb⟩
    · exact ⟨_, _, _, rfl, (by walk_at "hp"), (by omega), (by omega), (by omega), (by omega)⟩
    · exact ⟨_, _, _, rfl, (by walk_at "hp"), (by omega), (by omega), (by omega), (by omega)⟩
/-! _law_parts -/
theorem sc_l_parts : FnScope ["_law_source_here", "_law_widest", "_law_turning", "_law_slots", "_law_kind", "_law_filled", "_law_bare"] ["_law_source_here", "_law_widest"] (defScope s_l_parts) := ⟨rfl, rfl, rfl, by decide +kernel, rfl, by decide +kernel, by decide +kernel⟩
abbrev sp_l_parts (K : PySem.W.Frag) (A : Adr) : Sp := fun vs H Q _ => ∃ (a : Addr) (o : HO) (w : Int), vs = [.ref a, .int w] ∧ H a = some o ∧ SrcO o ∧ 1 ≤ w ∧ w ≤ 100 ∧ ∀ (v : V) (t : Pt) (o' : HO) (H' : Hp), Frm a H H' → H' a = some o' → SrcO o' → IsParts H' v t → Wf t → (∀ u, t.wrap = .width u → u ≤ w) → Q v H'
theorem ok_l_parts (T : Txt w K mg A) : FnOk P w K mg base CX0 4 A.f_l_parts A.d_l_parts ["_law_source_here", "_law_widest"] (sp_l_parts K A) := by
  refine T.F_l_parts.ok sc_l_parts (fun vs H Q E h => ?_) (fun cdv Ar outer s H vs Q E hr h => ?_)
  · obtain ⟨a, o, w, rfl, ha, ho, w1, w2, k⟩ := h
    rfl
  · obtain ⟨a, o, w, rfl, ha, ho, w1, w2, k⟩ := h
    have hu := hu_of hr
    have t_q_PART_NAMES := T.q_PART_NAMES
    have t_q_PART_WORDS_slot := T.q_PART_WORDS_slot
    have t_d_PART_WORDS_slot := T.d_PART_WORDS_slot
    have t_q_PART_WORDS_empty := T.q_PART_WORDS_empty
    have t_d_PART_WORDS_empty := T.d_PART_WORDS_empty
    have t_q_PART_WORDS_when := T.q_PART_WORDS_when
    have t_d_PART_WORDS_when := T.d_PART_WORDS_when
    have t_q_MEASURES := T.q_MEASURES
    have t_q_SIGNS := T.q_SIGNS
    have t_q_PLAIN_FULLS := T.q_PLAIN_FULLS
    have t_i_Form := T.i_Form
    have t_kt_Form_Form := T.kt_Form_Form
    have t_kt_int_Form := T.kt_int_Form
    have t_nf_Form_Form := T.nf_Form_Form
    have t_nf_int_Form := T.nf_int_Form
    have t_k_Form := T.k_Form
    have t_k_Scheme := T.k_Scheme
    refine ⟨_, (pss_cons (ps_set (i := 2) sc_l_parts.nd rfl (Or.inl rfl) (pe_call (ok_l_pick T) (hr.mono (by decide)) (by rfl) T.m_l_pick T.F_l_pick.kp T.b_l_pick .nil pass0 (pa_cons (pv 0) (pa_cons (pe_lst (pa_cons (pe_tup (pa_cons pe_int (pa_cons pe_int pa_nil))) (pa_cons (pe_tup (pa_cons pe_int (pa_cons pe_int pa_nil))) (pa_cons (pe_tup (pa_cons pe_int (pa_cons pe_int pa_nil))) (pa_cons (pe_tup (pa_cons pe_int (pa_cons pe_int pa_nil))) (pa_cons (pe_tup (pa_cons pe_int (pa_cons pe_int pa_nil))) (pa_cons (pe_tup (pa_cons pe_int (pa_cons pe_int pa_nil))) (pa_cons (pe_tup (pa_cons pe_int (pa_cons (pe_un un_neg pe_int) pa_nil))) (pa_cons (pe_tup (pa_cons pe_int (pa_cons pe_int pa_nil))) (pa_cons (pe_call (ok_l_limit T) (hr.mono (by decide)) (by rfl) T.m_l_limit T.F_l_limit.kp T.b_l_limit .nil pass0 (pa_cons (pv 0) pa_nil)) pa_nil)))))))))) pa_nil))))
      (pss_cons (ps_set (i := 3) sc_l_parts.nd rfl (Or.inl rfl) (pe_lst (pa_cons pe_str (pa_cons pe_str (pa_cons pe_str pa_nil)))))
      (pss_cons (ps_if (pt_cmpR op_eq (pe_call (ok_l_draw T) (hr.mono (by decide)) (by rfl) T.m_l_draw T.F_l_draw.kp T.b_l_draw .nil pass0 (pa_cons (pv 0) (pa_cons pe_int pa_nil))) pe_int (nomark _)) (pss_cons (ps_set (i := 2) sc_l_parts.nd rfl (Or.inl rfl) (pe_op op_add pe_int (pe_call (ok_l_draw T) (hr.mono (by decide)) (by rfl) T.m_l_draw T.F_l_draw.kp T.b_l_draw .nil pass0 (pa_cons (pv 0) (pa_cons (pv 1) pa_nil)))))
      (pss_one (ps_set (i := 3) sc_l_parts.nd rfl (Or.inl rfl) (pe_lst (pa_cons pe_str (pa_cons pe_str (pa_cons pe_str (pa_cons pe_str pa_nil)))))))) pss_nil)
      (pss_cons (ps_set (i := 4) sc_l_parts.nd rfl (Or.inl rfl) (pe_call (ok_l_pick T) (hr.mono (by decide)) (by rfl) T.m_l_pick T.F_l_pick.kp T.b_l_pick .nil pass0 (pa_cons (pv 0) (pa_cons (pe_lst (pa_cons pe_str (pa_cons pe_str (pa_cons pe_str (pa_cons pe_str (pa_cons pe_str pa_nil)))))) pa_nil))))
      (pss_cons (ps_set (i := 5) sc_l_parts.nd rfl (Or.inl rfl) (pe_tup (pa_cons (pv 4) pa_nil)))
      (pss_cons (ps_if (pt_cmpR op_in_seq (pv 4) (pe_tup (pa_cons pe_str (pa_cons pe_str pa_nil))) (by with_unfolding_all rfl)) (pss_one (ps_set (i := 5) sc_l_parts.nd rfl (Or.inl rfl) (pe_tup (pa_cons (pv 4) (pa_cons (pe_call (ok_l_pick T) (hr.mono (by decide)) (by rfl) T.m_l_pick T.F_l_pick.kp T.b_l_pick .nil pass0 (pa_cons (pv 0) (pa_cons (pe_lst (pa_cons pe_str (pa_cons pe_str pa_nil))) pa_nil))) (pa_cons (pe_call (ok_l_limit T) (hr.mono (by decide)) (by rfl) T.m_l_limit T.F_l_limit.kp T.b_l_limit .nil pass0 (pa_cons (pv 0) pa_nil)) pa_nil)))))) pss_nil)
      (pss_cons (ps_set (i := 6) sc_l_parts.nd rfl (Or.inl rfl) (pe_call (ok_l_pick T) (hr.mono (by decide)) (by rfl) T.m_l_pick T.F_l_pick.kp T.b_l_pick .nil pass0 (pa_cons (pv 0) (pa_cons (pe_lst (pa_cons pe_str (pa_cons pe_str (pa_cons pe_str (pa_cons pe_str pa_nil))))) pa_nil))))
      (pss_one (ps_ret (pe_tup (pa_cons (pv 2) (pa_cons (pe_call (ok_l_pick T) (hr.mono (by decide)) (by rfl) T.m_l_pick T.F_l_pick.kp T.b_l_pick .nil pass0 (pa_cons (pv 0) (pa_cons (pv 3) pa_nil))) (pa_cons (pv 6) (pa_cons (pv 5) (pa_cons (pe_call (ok_l_pick T) (hr.mono (by decide)) (by rfl) T.m_l_pick T.F_l_pick.kp T.b_l_pick .nil pass0 (pa_cons (pv 0) (pa_cons (pe_lst (pa_cons pe_str (pa_cons pe_str (pa_cons pe_str (pa_cons pe_str pa_nil))))) pa_nil))) pa_nil))))))))))))))), ?_⟩
    try dsimp only [L2.cxOf, L2.Cx.nox, L2.Cx.wish]
    with_reducible refine Rd.seq (Rd.asg (Rd.call (Rd.cons (Rd.var (by walk_at "vr") (Rd.cons (Rd.lst (Rd.cons (Rd.tup (Rd.cons (Rd.c (Rd.cons ?_)))))))))))
    with_reducible refine Rd.c (Rd.nil (Rd.laid (by walk_at "ll") ?_))
    intro p1 np1
    have ap_p1_a : p1 ≠ a := ne_none' np1 (by walk_at "hp")
    with_reducible refine Rd.cons (Rd.tup (Rd.cons (Rd.c (Rd.cons (Rd.c (Rd.nil (Rd.laid (by walk_at "ll") ?_)))))))
    intro p2 np2
    have ap_p2_a : p2 ≠ a := ne_none' np2 (by walk_at "hp")
    with_reducible refine Rd.cons (Rd.tup (Rd.cons (Rd.c (Rd.cons (Rd.c (Rd.nil (Rd.laid (by walk_at "ll") ?_)))))))
    intro p3 np3
    have ap_p3_a : p3 ≠ a := ne_none' np3 (by walk_at "hp")
    with_reducible refine Rd.cons (Rd.tup (Rd.cons (Rd.c (Rd.cons (Rd.c (Rd.nil (Rd.laid (by walk_at "ll") ?_)))))))
    intro p4 np4
    have ap_p4_a : p4 ≠ a := ne_none' np4 (by walk_at "hp")
    with_reducible refine Rd.cons (Rd.tup (Rd.cons (Rd.c (Rd.cons (Rd.c (Rd.nil (Rd.laid (by walk_at "ll") ?_)))))))
    intro p5 np5
    have ap_p5_a : p5 ≠ a := ne_none' np5 (by walk_at "hp")
    with_reducible refine Rd.cons (Rd.tup (Rd.cons (Rd.c (Rd.cons (Rd.c (Rd.nil (Rd.laid (by walk_at "ll") ?_)))))))
    intro p6 np6
    have ap_p6_a : p6 ≠ a := ne_none' np6 (by walk_at "hp")
    with_reducible refine Rd.cons (Rd.tup (Rd.cons (Rd.c (Rd.cons (Rd.un (Rd.c (Rd.iU (Rd.nil (Rd.laid (by walk_at "ll") ?_)))))))))
    intro p7 np7
    have ap_p7_a : p7 ≠ a := ne_none' np7 (by walk_at "hp")
    with_reducible refine Rd.cons (Rd.tup (Rd.cons (Rd.c (Rd.cons (Rd.c (Rd.nil (Rd.laid (by walk_at "ll") ?_)))))))
    intro p8 np8
    have ap_p8_a : p8 ≠ a := ne_none' np8 (by walk_at "hp")
    with_reducible refine Rd.cons (Rd.call (Rd.cons (Rd.var (by walk_at "vr") (Rd.nil ?_))))
    refine ⟨_, _, rfl, (by walk_at "hp"), (by walk_at "sc"), fun v1 o1 H1 F1 r1 so1 l1 => ?_⟩
    with_reducible refine Rd.nil (Rd.laid (by walk_at "ll") ?_)
    intro p0 np0
    have ap_p0_a : p0 ≠ a := ne_none' np0 (by walk_at "hp")
    with_reducible refine Rd.nil ?_
    refine ⟨_, _, _, _, rfl, (by walk_at "hp"), (by walk_at "sc"), (by walk_at "hp"), (by first | with_reducible assumption | walk_at "ll0"), (by first | with_reducible assumption | walk_at "ll"), (by walk_at "ne"), fun v2 o2 H2 m2 F2 r2 so2 => ?_⟩
    with_reducible refine Rd.name ?_
    try dsimp only [Int.reduceToNat, List.set]
    refine Rd.comp (fun Hx => ∃ oo, Frm a H Hx ∧ Hx a = some oo ∧ SrcO oo ∧ Lim Hx v2) ⟨_, (by walk_at "frm"), (by walk_at "hp"), (by assumption), ?_⟩ (fun Hb ⟨ob, Fb, hb, sb, lb⟩ => ?_)
    · simp only [List.mem_cons, List.not_mem_nil, or_false] at m2
      rcases m2 with m2 | m2 | m2 | m2 | m2 | m2 | m2 | m2 | m2
      · subst m2
        exact ⟨_, _, _, rfl, (by walk_at "hp"), (by omega), (by omega), (by omega), (by omega)⟩
      · subst m2
        exact ⟨_, _, _, rfl, (by walk_at "hp"), (by omega), (by omega), (by omega), (by omega)⟩
      · subst m2
        exact ⟨_, _, _, rfl, (by walk_at "hp"), (by omega), (by omega), (by omega), (by omega)⟩
      · subst m2
        exact ⟨_, _, _, rfl, (by walk_at "hp"), (by omega), (by omega), (by omega), (by omega)⟩
      · subst m2
        exact ⟨_, _, _, rfl, (by walk_at "hp"), (by omega), (by omega), (by omega), (by omega)⟩
      · subst m2
        exact ⟨_, _, _, rfl, (by walk_at "hp"), (by omega), (by omega), (by omega), (by omega)⟩
      · subst m2
        exact ⟨_, _, _, rfl, (by walk_at "hp"), (by omega), (by omega), (by omega), (by omega)⟩
      · subst m2
        exact ⟨_, _, _, rfl, (by walk_at "hp"), (by omega), (by omega), (by omega), (by omega)⟩
      · rw [m2]
        exact Lim.frmS F2 (by walk_at "hp") (by assumption) (l1.same (by walk_at "frm"))
    obtain ⟨pt, ts, tb, rfl, hpt, tb1, tb2, tb3, tb4⟩ := lb
    obtain ⟨xb, yb, rfl, sb1⟩ := sb
    have ptne : pt ≠ a := L2.ne_of hpt hb (by intro z; cases z)
    have sb : SrcO (.lst [.int xb, .int yb]) := ⟨xb, yb, rfl, sb1⟩
    with_reducible refine Rd.seq (Rd.asg (Rd.lst (Rd.cons (Rd.c (Rd.cons (Rd.c (Rd.cons (Rd.c (Rd.nil (Rd.laid (by walk_at "ll") ?_))))))))))
    intro p9 np9
    have ap_p9_a : p9 ≠ a := ne_none' np9 (by walk_at "hp")
    with_reducible refine Rd.name ?_
    try dsimp only [Int.reduceToNat, List.set]
    with_reducible refine Rd.seq ?_
    refine Rd.ifJ (fun σ' H' => ∃ (vt : V) (l : Addr) (t : Wr) (xs : List V) (oo : HO), σ' = [some (.ref a), some (.int w), some vt, some (.ref l), none, none, none] ∧ Frm a H H' ∧ H' a = some oo ∧ SrcO oo ∧ IsTurn H' vt t ∧ WfW t ∧ (∀ u, t = .width u → u ≤ w) ∧ H' l = some (.lst xs) ∧ l ≠ a ∧ 0 < xs.length ∧ xs.length ≤ 100 ∧ ∀ x ∈ xs, ∃ s, x = .str s ∧ s ∈ wSlot ∧ (∀ s' b', t = .form s' b' → s ≠ "mask")) ?_ ?_
    · intro key
      with_reducible refine Rd.ifS (Rd.test (Rd.op (Rd.call (Rd.cons (Rd.var (by walk_at "vr") (Rd.cons (Rd.c (Rd.nil ?_))))))))
      refine ⟨_, _, _, rfl, (by walk_at "hp"), (by walk_at "sc"), (by walk_at "sc"), (by walk_at "sc"), fun d3 o3 d3a d3b s3 => ?_⟩
      with_reducible refine Rd.c (Rd.eqS (by walk_at "vr") (Rd.bl ?_))
      refine Rd.ite (fun h0 => ?_) (fun h0 => ?_)
      · try simp only [decide_eq_true_eq, Bool.not_eq_true', decide_eq_false_iff_not, Bool.not_eq_true, Bool.not_eq_eq_eq_not, Bool.not_true, Bool.not_false] at h0
        with_reducible refine Rd.seq (Rd.asg (Rd.op (Rd.c (Rd.call (Rd.cons (Rd.var (by walk_at "vr") (Rd.cons (Rd.var (by walk_at "vr") (Rd.nil ?_)))))))))
        refine ⟨_, _, _, rfl, (by walk_at "hp"), (by walk_at "sc"), (by walk_at "sc"), (by walk_at "sc"), fun d4 o4 d4a d4b s4 => ?_⟩
        with_reducible refine Rd.i0 (Rd.name ?_)
        try dsimp only [Int.reduceToNat, List.set]
        with_reducible refine Rd.asg (Rd.lst (Rd.cons (Rd.c (Rd.cons (Rd.c (Rd.cons (Rd.c (Rd.cons (Rd.c (Rd.nil (Rd.laid (by walk_at "ll") ?_)))))))))))
        intro p10 np10
        have ap_p10_a : p10 ≠ a := ne_none' np10 (by walk_at "hp")
        with_reducible refine Rd.name ?_
        try dsimp only [Int.reduceToNat, List.set]
        first
          | exact key _ _ ⟨_, _, .width (1 + d4), _, _, rfl, (by walk_at "frm"), (by walk_at "hp"), (by assumption), rfl, ⟨by omega, by omega⟩, (by intro u hu; cases hu; omega), (by walk_at "hp"), (by walk_at "ne"), (by walk_at "ll0"), (by walk_at "ll"), (by intro x hx; simp only [List.mem_cons, List.not_mem_nil, or_false] at hx; rcases hx with rfl | rfl | rfl | rfl <;> exact ⟨_, rfl, (by decide +kernel), (fun _ _ z => by cases z)⟩)⟩
          | exact key _ _ ⟨_, _, .form ts tb, _, _, rfl, (by walk_at "frm"), (by walk_at "hp"), (by assumption), ⟨_, rfl, (by walk_at "hp")⟩, ⟨tb1, tb2, tb3, tb4⟩, (by intro u hu; cases hu), (by walk_at "hp"), (by walk_at "ne"), (by walk_at "ll0"), (by walk_at "ll"), (by intro x hx; simp only [List.mem_cons, List.not_mem_nil, or_false] at hx; rcases hx with rfl | rfl | rfl <;> exact ⟨_, rfl, (by decide +kernel), (fun _ _ _ => by decide +kernel)⟩)⟩
      · try simp only [decide_eq_true_eq, Bool.not_eq_true', decide_eq_false_iff_not, Bool.not_eq_true, Bool.not_eq_eq_eq_not, Bool.not_true, Bool.not_false, Int.not_lt, Int.not_le, Decidable.not_not] at h0
        with_reducible refine Rd.next ?_
        first
          | exact key _ _ ⟨_, _, .width (1 + d4), _, _, rfl, (by walk_at "frm"), (by walk_at "hp"), (by assumption), rfl, ⟨by omega, by omega⟩, (by intro u hu; cases hu; omega), (by walk_at "hp"), (by walk_at "ne"), (by walk_at "ll0"), (by walk_at "ll"), (by intro x hx; simp only [List.mem_cons, List.not_mem_nil, or_false] at hx; rcases hx with rfl | rfl | rfl | rfl <;> exact ⟨_, rfl, (by decide +kernel), (fun _ _ z => by cases z)⟩)⟩
          | exact key _ _ ⟨_, _, .form ts tb, _, _, rfl, (by walk_at "frm"), (by walk_at "hp"), (by assumption), ⟨_, rfl, (by walk_at "hp")⟩, ⟨tb1, tb2, tb3, tb4⟩, (by intro u hu; cases hu), (by walk_at "hp"), (by walk_at "ne"), (by walk_at "ll0"), (by walk_at "ll"), (by intro x hx; simp only [List.mem_cons, List.not_mem_nil, or_false] at hx; rcases hx with rfl | rfl | rfl <;> exact ⟨_, rfl, (by decide +kernel), (fun _ _ _ => by decide +kernel)⟩)⟩
    · rintro σ' Hc ⟨vt, lc, t, xs, oc, rfl, Fc, hc, sc, ht, wt, wu, hl, lne, xl0, xl1, hx⟩
      obtain ⟨xc, yc, rfl, sc1⟩ := sc
      have sc : SrcO (.lst [.int xc, .int yc]) := ⟨xc, yc, rfl, sc1⟩
      with_reducible refine Rd.seq (Rd.asg (Rd.call (Rd.cons (Rd.var (by walk_at "vr") (Rd.cons (Rd.lst (Rd.cons (Rd.c (Rd.cons (Rd.c (Rd.cons ?_)))))))))))
      with_reducible refine Rd.c (Rd.cons (Rd.c (Rd.cons (Rd.c (Rd.nil (Rd.laid (by walk_at "ll") ?_))))))
      intro p11 np11
      have ap_p11_a : p11 ≠ a := ne_none' np11 (by walk_at "hp")
      with_reducible refine Rd.nil ?_
      refine ⟨_, _, _, _, rfl, (by walk_at "hp"), (by walk_at "sc"), (by walk_at "hp"), (by first | with_reducible assumption | walk_at "ll0"), (by first | with_reducible assumption | walk_at "ll"), (by walk_at "ne"), fun v5 o5 H5 m5 F5 r5 so5 => ?_⟩
      with_reducible refine Rd.name ?_
      try dsimp only [Int.reduceToNat, List.set]
      obtain ⟨kk, rfl, hkk⟩ : ∃ kk, v5 = V.str kk ∧ (kk ∈ wMeas ∨ kk ∈ wPlain) := by
        simp only [List.mem_cons, List.not_mem_nil, or_false] at m5
        rcases m5 with rfl | rfl | rfl | rfl | rfl <;> first | exact ⟨_, rfl, .inl (by decide +kernel)⟩ | exact ⟨_, rfl, .inr (by decide +kernel)⟩
      with_reducible refine Rd.seq (Rd.asg (Rd.tup (Rd.cons (Rd.var (by walk_at "vr") (Rd.nil (Rd.laid (by walk_at "ll") ?_))))))
      intro p12 np12
      have ap_p12_a : p12 ≠ a := ne_none' np12 (by walk_at "hp")
      with_reducible refine Rd.name ?_
      try dsimp only [Int.reduceToNat, List.set]
      with_reducible refine Rd.seq ?_
      refine Rd.ifJ (fun σ' H' => ∃ (vf : V) (f : Fl) (xd yd : Int), σ' = [some (.ref a), some (.int w), some vt, some (.ref lc), some (.str kk), some vf, none] ∧ Frm a H H' ∧ H' a = some (.lst [.int xd, .int yd]) ∧ SrcO (.lst [.int xd, .int yd]) ∧ IsTurn H' vt t ∧ H' lc = some (.lst xs) ∧ IsFill H' vf f ∧ WfF f) ?_ ?_
      · intro key
        with_reducible refine Rd.ifS (Rd.test (Rd.op (Rd.var (by walk_at "vr") (Rd.tup (Rd.cons (Rd.c (Rd.cons (Rd.c (Rd.nil (Rd.laid (by walk_at "ll") ?_))))))))))
        intro p13 np13
        have ap_p13_a : p13 ≠ a := ne_none' np13 (by walk_at "hp")
        refine Rd.inT (.inr (by walk_at "hpt")) rfl (by walk_at "flt") ?_
        with_reducible refine Rd.bl ?_
        refine Rd.ite (fun h1 => ?_) (fun h1 => ?_)
        · try simp only [decide_eq_true_eq, Bool.not_eq_true', decide_eq_false_iff_not, Bool.not_eq_true, Bool.not_eq_eq_eq_not, Bool.not_true, Bool.not_false] at h1
          with_reducible refine Rd.asg (Rd.tup (Rd.cons (Rd.var (by walk_at "vr") (Rd.cons (Rd.call (Rd.cons (Rd.var (by walk_at "vr") (Rd.cons (Rd.lst (Rd.cons (Rd.c ?_)))))))))))
          with_reducible refine Rd.cons (Rd.c (Rd.nil (Rd.laid (by walk_at "ll") ?_)))
          intro p15 np15
          have ap_p15_a : p15 ≠ a := ne_none' np15 (by walk_at "hp")
          with_reducible refine Rd.nil ?_
          refine ⟨_, _, _, _, rfl, (by walk_at "hp"), (by walk_at "sc"), (by walk_at "hp"), (by first | with_reducible assumption | walk_at "ll0"), (by first | with_reducible assumption | walk_at "ll"), (by walk_at "ne"), fun v6 o6 H6 m6 F6 r6 so6 => ?_⟩
          with_reducible refine Rd.cons (Rd.call (Rd.cons (Rd.var (by walk_at "vr") (Rd.nil ?_))))
          refine ⟨_, _, rfl, (by walk_at "hp"), (by walk_at "sc"), fun v7 o7 H7 F7 r7 so7 l7 => ?_⟩
          with_reducible refine Rd.nil (Rd.laid (by walk_at "ll") ?_)
          intro p14 np14
          have ap_p14_a : p14 ≠ a := ne_none' np14 (by walk_at "hp")
          with_reducible refine Rd.name ?_
          try dsimp only [Int.reduceToNat, List.set]
          first
            | (obtain ⟨pz, zs, zb, rfl, hz, z1, z2, z3, z4⟩ := l7
               obtain ⟨gg, rfl, hgg⟩ : ∃ gg, v6 = V.str gg ∧ gg ∈ wSign := by
                 simp only [List.mem_cons, List.not_mem_nil, or_false] at m6
                 rcases m6 with rfl | rfl <;> exact ⟨_, rfl, (by decide +kernel)⟩
               have hk2 : kk ∈ wMeas := by
                 have e := h1.symm.trans (Rd.inW_iff (s := kk) (ws := wMeas))
                 exact of_decide_eq_true e.symm
               obtain ⟨xd, yd, rfl, sd1⟩ := so7
               exact key _ _ ⟨_, .lim kk gg zs zb, _, _, rfl, (by walk_at "frm"), (by walk_at "hp"), ⟨_, _, rfl, sd1⟩, ht.keep (fun p xs h => by have n1 : p ≠ a := L2.ne_of h hc (by intro z; cases z); have n2 : p ≠ lc := L2.ne_of h hl (by intro z; cases z); walk_at "hp"), (by walk_at "hp"), ⟨_, _, rfl, (by walk_at "hp"), (by walk_at "hp")⟩, ⟨hk2, hgg, z1, z2, z3, z4⟩⟩)
            | (have hk2 : kk ∈ wPlain := by
                 rcases hkk with hkk | hkk
                 · exact Bool.noConfusion ((Rd.inW (ws := wMeas) hkk).symm.trans h1)
                 · exact hkk
               obtain ⟨xd, yd, rfl, sd1⟩ := so5
               exact key _ _ ⟨_, .plain kk, _, _, rfl, (by walk_at "frm"), (by walk_at "hp"), ⟨_, _, rfl, sd1⟩, ht.keep (fun p xs h => by have n1 : p ≠ a := L2.ne_of h hc (by intro z; cases z); have n2 : p ≠ lc := L2.ne_of h hl (by intro z; cases z); walk_at "hp"), (by walk_at "hp"), ⟨_, rfl, (by walk_at "hp")⟩, hk2⟩)
        · try simp only [decide_eq_true_eq, Bool.not_eq_true', decide_eq_false_iff_not, Bool.not_eq_true, Bool.not_eq_eq_eq_not, Bool.not_true, Bool.not_false, Int.not_lt, Int.not_le, Decidable.not_not] at h1
          with_reducible refine Rd.next ?_
          first
            | (obtain ⟨pz, zs, zb, rfl, hz, z1, z2, z3, z4⟩ := l7
               obtain ⟨gg, rfl, hgg⟩ : ∃ gg, v6 = V.str gg ∧ gg ∈ wSign := by
                 simp only [List.mem_cons, List.not_mem_nil, or_false] at m6
                 rcases m6 with rfl | rfl <;> exact ⟨_, rfl, (by decide +kernel)⟩
               have hk2 : kk ∈ wMeas := by
                 have e := h1.symm.trans (Rd.inW_iff (s := kk) (ws := wMeas))
                 exact of_decide_eq_true e.symm
               obtain ⟨xd, yd, rfl, sd1⟩ := so7
               exact key _ _ ⟨_, .lim kk gg zs zb, _, _, rfl, (by walk_at "frm"), (by walk_at "hp"), ⟨_, _, rfl, sd1⟩, ht.keep (fun p xs h => by have n1 : p ≠ a := L2.ne_of h hc (by intro z; cases z); have n2 : p ≠ lc := L2.ne_of h hl (by intro z; cases z); walk_at "hp"), (by walk_at "hp"), ⟨_, _, rfl, (by walk_at "hp"), (by walk_at "hp")⟩, ⟨hk2, hgg, z1, z2, z3, z4⟩⟩)
            | (have hk2 : kk ∈ wPlain := by
                 rcases hkk with hkk | hkk
                 · exact Bool.noConfusion ((Rd.inW (ws := wMeas) hkk).symm.trans h1)
                 · exact hkk
               obtain ⟨xd, yd, rfl, sd1⟩ := so5
               exact key _ _ ⟨_, .plain kk, _, _, rfl, (by walk_at "frm"), (by walk_at "hp"), ⟨_, _, rfl, sd1⟩, ht.keep (fun p xs h => by have n1 : p ≠ a := L2.ne_of h hc (by intro z; cases z); have n2 : p ≠ lc := L2.ne_of h hl (by intro z; cases z); walk_at "hp"), (by walk_at "hp"), ⟨_, rfl, (by walk_at "hp")⟩, hk2⟩)
      · rintro σ' Hd ⟨vf, f, xd, yd, rfl, Fd, hd, sd, htd, hld, hfd, wfd⟩
        with_reducible refine Rd.seq (Rd.asg (Rd.call (Rd.cons (Rd.var (by walk_at "vr") (Rd.cons (Rd.lst (Rd.cons (Rd.c (Rd.cons (Rd.c (Rd.cons ?_)))))))))))
        with_reducible refine Rd.c (Rd.cons (Rd.c (Rd.nil (Rd.laid (by walk_at "ll") ?_))))
        intro p16 np16
        have ap_p16_a : p16 ≠ a := ne_none' np16 (by walk_at "hp")
        with_reducible refine Rd.nil ?_
        refine ⟨_, _, _, _, rfl, (by walk_at "hp"), (by walk_at "sc"), (by walk_at "hp"), (by first | with_reducible assumption | walk_at "ll0"), (by first | with_reducible assumption | walk_at "ll"), (by walk_at "ne"), fun v8 o8 H8 m8 F8 r8 so8 => ?_⟩
        with_reducible refine Rd.name ?_
        try dsimp only [Int.reduceToNat, List.set]
        obtain ⟨em, rfl, hem⟩ : ∃ em, v8 = V.str em ∧ em ∈ wEmpty := by
          simp only [List.mem_cons, List.not_mem_nil, or_false] at m8
          rcases m8 with rfl | rfl | rfl | rfl <;> exact ⟨_, rfl, (by decide +kernel)⟩
        with_reducible refine Rd.ret (Rd.tup (Rd.cons (Rd.var (by walk_at "vr") (Rd.cons (Rd.call (Rd.cons (Rd.var (by walk_at "vr") (Rd.cons (Rd.var (by walk_at "vr") (Rd.nil ?_))))))))))
        refine ⟨_, _, _, _, rfl, (by walk_at "hp"), (by walk_at "sc"), (by walk_at "hp"), (by first | with_reducible assumption | walk_at "ll0"), (by first | with_reducible assumption | walk_at "ll"), (by walk_at "ne"), fun v9 o9 H9 m9 F9 r9 so9 => ?_⟩
        with_reducible refine Rd.cons (Rd.var (by walk_at "vr") (Rd.cons (Rd.var (by walk_at "vr") (Rd.cons (Rd.call (Rd.cons (Rd.var (by walk_at "vr") (Rd.cons (Rd.lst (Rd.cons (Rd.c ?_)))))))))))
        with_reducible refine Rd.cons (Rd.c (Rd.cons (Rd.c (Rd.cons (Rd.c (Rd.nil (Rd.laid (by walk_at "ll") ?_)))))))
        intro p18 np18
        have ap_p18_a : p18 ≠ a := ne_none' np18 (by walk_at "hp")
        with_reducible refine Rd.nil ?_
        refine ⟨_, _, _, _, rfl, (by walk_at "hp"), (by walk_at "sc"), (by walk_at "hp"), (by first | with_reducible assumption | walk_at "ll0"), (by first | with_reducible assumption | walk_at "ll"), (by walk_at "ne"), fun v10 o10 H10 m10 F10 r10 so10 => ?_⟩
        with_reducible refine Rd.nil (Rd.laid (by walk_at "ll") ?_)
        intro p17 np17
        have ap_p17_a : p17 ≠ a := ne_none' np17 (by walk_at "hp")
        obtain ⟨s9, rfl, hs9, hm9⟩ := hx _ m9
        obtain ⟨w10, rfl, hw10⟩ : ∃ w10, v10 = V.str w10 ∧ w10 ∈ wWhen := by
          simp only [List.mem_cons, List.not_mem_nil, or_false] at m10
          rcases m10 with rfl | rfl | rfl | rfl <;> exact ⟨_, rfl, (by decide +kernel)⟩
        exact k _ ⟨t, s9, em, f, w10⟩ _ _ (by walk_at "frm") (by walk_at "hp") (by assumption) ⟨_, _, _, rfl, L2.upd_same, htd.keep (fun p xs h => by have n1 : p ≠ a := L2.ne_of h hd (by intro z; cases z); have n2 : p ≠ lc := L2.ne_of h hld (by intro z; cases z); walk_at "hp"), hfd.keep (fun p xs h => by have n1 : p ≠ a := L2.ne_of h hd (by intro z; cases z); have n2 : p ≠ lc := L2.ne_of h hld (by intro z; cases z); walk_at "hp")⟩ ⟨wt, hs9, hem, wfd, hw10, hm9⟩ wu
/-! _law_wrap -/
theorem sc_l_wrap : FnScope ["_law_turning"] ["_law_turning"] (defScope s_l_wrap) := ⟨rfl, rfl, rfl, by decide +kernel, rfl, by decide +kernel, by decide +kernel⟩
abbrev sp_l_wrap (K : PySem.W.Frag) (A : Adr) : Sp := fun vs H Q _ => ∃ (v : V) (t : Wr), vs = [v] ∧ IsTurn H v t ∧ ∀ (v' : V) (H' : Hp), Same H H' → IsWrap A H' v' t → Q v' H'
theorem ok_l_wrap (T : Txt w K mg A) : FnOk P w K mg base CX0 4 A.f_l_wrap A.d_l_wrap ["_law_turning"] (sp_l_wrap K A) := by
  refine T.F_l_wrap.ok sc_l_wrap (fun vs H Q E h => ?_) (fun cdv Ar outer s H vs Q E hr h => ?_)
  · obtain ⟨v, t, rfl, ht, k⟩ := h
    rfl
  · obtain ⟨v, t, rfl, ht, k⟩ := h
    have hu := hu_of hr
    have t_q_PART_NAMES := T.q_PART_NAMES
    have t_q_PART_WORDS_slot := T.q_PART_WORDS_slot
    have t_d_PART_WORDS_slot := T.d_PART_WORDS_slot
    have t_q_PART_WORDS_empty := T.q_PART_WORDS_empty
    have t_d_PART_WORDS_empty := T.d_PART_WORDS_empty
    have t_q_PART_WORDS_when := T.q_PART_WORDS_when
    have t_d_PART_WORDS_when := T.d_PART_WORDS_when
    have t_q_MEASURES := T.q_MEASURES
    have t_q_SIGNS := T.q_SIGNS
    have t_q_PLAIN_FULLS := T.q_PLAIN_FULLS
    have t_i_Form := T.i_Form
    have t_kt_Form_Form := T.kt_Form_Form
    have t_kt_int_Form := T.kt_int_Form
    have t_nf_Form_Form := T.nf_Form_Form
    have t_nf_int_Form := T.nf_int_Form
    have t_k_Form := T.k_Form
    have t_k_Scheme := T.k_Scheme
    rcases t with w | ⟨s, b⟩
    · have ht : v = .int w := ht
      subst ht
      refine ⟨_, (pss_cons (ps_if (pt_val (pe_callB (Rd.isi (K := K) rfl) (by rfl) T.n_isinstance (by decide +kernel) (pa_cons (pv 0) (pa_cons (pe_bltn (v := .ty "int") (u := .type "int") (by rfl) T.n_int (by decide +kernel) rfl) pa_nil)))) (pss_one (ps_ret (pv 0))) pss_nil)
      (pss_one ps_never)), ?_⟩
      try dsimp only [L2.cxOf, L2.Cx.nox, L2.Cx.wish]
      with_reducible refine Rd.seq (Rd.ifS (Rd.tb (Rd.cB (Rd.cons (Rd.var (by walk_at "vr") (Rd.cons (Rd.c (Rd.nil ?_))))))))
      refine ⟨_, _, _, _, _, rfl, (by walk_at "clsv"), (by walk_at "tyx"), (by walk_at "kit"), ?_⟩
      with_reducible refine Rd.bl (Rd.iteT (by first | with_unfolding_all rfl | walk_at "bT") (Rd.ret (Rd.var (by walk_at "vr") ?_)))
      exact k _ _ (Same.refl _) rfl
    · obtain ⟨p, rfl, hp⟩ := ht
      refine ⟨_, (pss_cons (ps_if (pt_val (pe_callB (Rd.isi (K := K) rfl) (by rfl) T.n_isinstance (by decide +kernel) (pa_cons (pv 0) (pa_cons (pe_bltn (v := .ty "int") (u := .type "int") (by rfl) T.n_int (by decide +kernel) rfl) pa_nil)))) (pss_one ps_never) pss_nil)
      (pss_one (ps_ret (pe_make T.K_Form (ok_Formu__initu_ T) (hr.mono (by decide)) (by rfl) T.m_Form T.b_Formu__initu_ .nil pass0 (pa_cons (pe_ix (Rd.ixTK rfl) (pv 0) pe_int (fun _ _ => rfl)) (pa_cons (pe_ix (Rd.ixTK rfl) (pv 0) pe_int (fun _ _ => rfl)) pa_nil)))))), ?_⟩
      try dsimp only [L2.cxOf, L2.Cx.nox, L2.Cx.wish]
      with_reducible refine Rd.seq (Rd.ifS (Rd.tb (Rd.cB (Rd.cons (Rd.var (by walk_at "vr") (Rd.cons (Rd.c (Rd.nil ?_))))))))
      refine ⟨_, _, _, _, _, rfl, (by walk_at "clsv"), (by walk_at "tyx"), (by walk_at "kit"), ?_⟩
      with_reducible refine Rd.bl (Rd.iteF (by first | with_unfolding_all rfl | walk_at "bF") (Rd.next (Rd.ret (Rd.make (Rd.cons (Rd.op (Rd.var (by walk_at "vr") (Rd.c (Rd.ixT (by walk_at "hpt") (by walk_at "vr") (Rd.cons (Rd.op ?_)))))))))))
      with_reducible refine Rd.var (by walk_at "vr") (Rd.c (Rd.ixT (by walk_at "hpt") (by walk_at "vr") (Rd.nil ?_)))
      intro x1 dx1 nx1 ndx1 ne1
      refine ⟨_, _, _, _, rfl, L2.upd_same, ?_⟩
      refine ⟨rfl, ?_⟩
      rw [L2.upd_upd]
      exact k _ _ (by walk_at "frm") ⟨_, _, rfl, L2.upd_same⟩
/-! _law_rule -/
theorem sc_l_rule : FnScope ["_law_filled"] ["_law_filled"] (defScope s_l_rule) := ⟨rfl, rfl, rfl, by decide +kernel, rfl, by decide +kernel, by decide +kernel⟩
abbrev sp_l_rule (K : PySem.W.Frag) (A : Adr) : Sp := fun vs H Q _ => ∃ (v : V) (t : Fl), vs = [v] ∧ IsFill H v t ∧ ∀ (v' : V) (H' : Hp), Same H H' → IsFull A H' v' t → Q v' H'
theorem ok_l_rule (T : Txt w K mg A) : FnOk P w K mg base CX0 4 A.f_l_rule A.d_l_rule ["_law_filled"] (sp_l_rule K A) := by
  refine T.F_l_rule.ok sc_l_rule (fun vs H Q E h => ?_) (fun cdv Ar outer s H vs Q E hr h => ?_)
  · obtain ⟨v, t, rfl, ht, k⟩ := h
    rfl
  · obtain ⟨v, t, rfl, ht, k⟩ := h
    have hu := hu_of hr
    have t_q_PART_NAMES := T.q_PART_NAMES
    have t_q_PART_WORDS_slot := T.q_PART_WORDS_slot
    have t_d_PART_WORDS_slot := T.d_PART_WORDS_slot
    have t_q_PART_WORDS_empty := T.q_PART_WORDS_empty
    have t_d_PART_WORDS_empty := T.d_PART_WORDS_empty
    have t_q_PART_WORDS_when := T.q_PART_WORDS_when
    have t_d_PART_WORDS_when := T.d_PART_WORDS_when
    have t_q_MEASURES := T.q_MEASURES
    have t_q_SIGNS := T.q_SIGNS
    have t_q_PLAIN_FULLS := T.q_PLAIN_FULLS
    have t_i_Form := T.i_Form
    have t_kt_Form_Form := T.kt_Form_Form
    have t_kt_int_Form := T.kt_int_Form
    have t_nf_Form_Form := T.nf_Form_Form
    have t_nf_int_Form := T.nf_int_Form
    have t_k_Form := T.k_Form
    have t_k_Scheme := T.k_Scheme
    rcases t with kk | ⟨kk, g, s, b⟩
    · obtain ⟨p, rfl, hp⟩ := ht
      refine ⟨_, (pss_cons (ps_if (pt_cmpR op_eq (pe_callB call_len_seq (by rfl) T.n_len PySem.boot_len (pa_cons (pv 0) pa_nil)) pe_int (nomark _)) (pss_one (ps_ret (pv 0))) pss_nil)
      (pss_one ps_never)), ?_⟩
      try dsimp only [L2.cxOf, L2.Cx.nox, L2.Cx.wish]
      with_reducible refine Rd.seq (Rd.ifS (Rd.test (Rd.op (Rd.cB (Rd.cons (Rd.var (by walk_at "vr") (Rd.nil (⟨_, _, rfl, (by walk_at "hpq"), (Rd.c (Rd.eqS (by walk_at "vr") (Rd.bl ?_)))⟩))))))))
      with_reducible refine Rd.iteT (by first | with_unfolding_all rfl | walk_at "bT") (Rd.ret (Rd.var (by walk_at "vr") ?_))
      exact k _ _ (Same.refl _) ⟨_, rfl, hp⟩
    · obtain ⟨p, q, rfl, hp, hq⟩ := ht
      refine ⟨_, (pss_cons (ps_if (pt_cmpR op_eq (pe_callB call_len_seq (by rfl) T.n_len PySem.boot_len (pa_cons (pv 0) pa_nil)) pe_int (nomark _)) (pss_one ps_never) pss_nil)
      (pss_one (ps_ret (pe_tup (pa_cons (pe_ix (Rd.ixTK rfl) (pv 0) pe_int (fun _ _ => rfl)) (pa_cons (pe_ix (Rd.ixTK rfl) (pv 0) pe_int (fun _ _ => rfl)) (pa_cons (pe_make T.K_Form (ok_Formu__initu_ T) (hr.mono (by decide)) (by rfl) T.m_Form T.b_Formu__initu_ .nil pass0 (pa_cons (pe_ix (Rd.ixTK rfl) (pe_ix (Rd.ixTK rfl) (pv 0) pe_int (fun _ _ => rfl)) pe_int (fun _ _ => rfl)) (pa_cons (pe_ix (Rd.ixTK rfl) (pe_ix (Rd.ixTK rfl) (pv 0) pe_int (fun _ _ => rfl)) pe_int (fun _ _ => rfl)) pa_nil))) pa_nil))))))), ?_⟩
      try dsimp only [L2.cxOf, L2.Cx.nox, L2.Cx.wish]
      with_reducible refine Rd.seq (Rd.ifS (Rd.test (Rd.op (Rd.cB (Rd.cons (Rd.var (by walk_at "vr") (Rd.nil (⟨_, _, rfl, (by walk_at "hpq"), (Rd.c (Rd.eqS (by walk_at "vr") (Rd.bl ?_)))⟩))))))))
      with_reducible refine Rd.iteF (by first | with_unfolding_all rfl | walk_at "bF") (Rd.next (Rd.ret (Rd.tup (Rd.cons (Rd.op (Rd.var (by walk_at "vr") (Rd.c (Rd.ixT (by walk_at "hpt") (by walk_at "vr") (Rd.cons (Rd.op (Rd.var (by walk_at "vr") ?_)))))))))))
      with_reducible refine Rd.c (Rd.ixT (by walk_at "hpt") (by walk_at "vr") (Rd.cons (Rd.make (Rd.cons (Rd.op (Rd.op (Rd.var (by walk_at "vr") (Rd.c (Rd.ixT (by walk_at "hpt") (by walk_at "vr") (Rd.c (Rd.ixT (by walk_at "hpt") (by walk_at "vr") ?_)))))))))))
      with_reducible refine Rd.cons (Rd.op (Rd.op (Rd.var (by walk_at "vr") (Rd.c (Rd.ixT (by walk_at "hpt") (by walk_at "vr") (Rd.c (Rd.ixT (by walk_at "hpt") (by walk_at "vr") (Rd.nil ?_))))))))
      intro x1 dx1 nx1 ndx1 ne1
      refine ⟨_, _, _, _, rfl, L2.upd_same, ?_⟩
      refine ⟨rfl, ?_⟩
      rw [L2.upd_upd]
      with_reducible refine Rd.nil (Rd.laid (by walk_at "ll") ?_)
      intro p0 np0
      exact k _ _ (by walk_at "frm") ⟨_, _, _, rfl, L2.upd_same, (by walk_at "hp")⟩
/-! _law_scheme -/
theorem sc_l_scheme : FnScope ["_law_parts_here", "_law_turning", "_law_spot", "_law_bare", "_law_filled", "_law_manner"] ["_law_parts_here"] (defScope s_l_scheme) := ⟨rfl, rfl, rfl, by decide +kernel, rfl, by decide +kernel, by decide +kernel⟩
abbrev sp_l_scheme (K : PySem.W.Frag) (A : Adr) : Sp := fun vs H Q _ => ∃ (v : V) (t : Pt), vs = [v] ∧ IsParts H v t ∧ Wf t ∧ ∀ (p : Addr) (H' : Hp), Same H H' → H p = none → IsScheme A H' p t → Q (.ref p) H'
theorem ok_l_scheme (T : Txt w K mg A) : FnOk P w K mg base CX0 8 A.f_l_scheme A.d_l_scheme ["_law_parts_here"] (sp_l_scheme K A) := by
  refine T.F_l_scheme.ok sc_l_scheme (fun vs H Q E h => ?_) (fun cdv Ar outer s H vs Q E hr h => ?_)
  · obtain ⟨v, t, rfl, ⟨p, vt, vf, rfl, hp, ht, hf⟩, wf, k⟩ := h
    rfl
  · obtain ⟨v, t, rfl, ⟨p, vt, vf, rfl, hp, ht, hf⟩, wf, k⟩ := h
    have hu := hu_of hr
    have t_q_PART_NAMES := T.q_PART_NAMES
    have t_q_PART_WORDS_slot := T.q_PART_WORDS_slot
    have t_d_PART_WORDS_slot := T.d_PART_WORDS_slot
    have t_q_PART_WORDS_empty := T.q_PART_WORDS_empty
    have t_d_PART_WORDS_empty := T.d_PART_WORDS_empty
    have t_q_PART_WORDS_when := T.q_PART_WORDS_when
    have t_d_PART_WORDS_when := T.d_PART_WORDS_when
    have t_q_MEASURES := T.q_MEASURES
    have t_q_SIGNS := T.q_SIGNS
    have t_q_PLAIN_FULLS := T.q_PLAIN_FULLS
    have t_i_Form := T.i_Form
    have t_kt_Form_Form := T.kt_Form_Form
    have t_kt_int_Form := T.kt_int_Form
    have t_nf_Form_Form := T.nf_Form_Form
    have t_nf_int_Form := T.nf_int_Form
    have t_k_Form := T.k_Form
    have t_k_Scheme := T.k_Scheme
    refine ⟨_, (pss_cons (ps_asg (pv 0) (pg_tup (by rfl) (pgs_cons (pg_name (i := 1) sc_l_scheme.nd rfl (Or.inl rfl)) (pgs_cons (pg_name (i := 2) sc_l_scheme.nd rfl (Or.inl rfl)) (pgs_cons (pg_name (i := 3) sc_l_scheme.nd rfl (Or.inl rfl)) (pgs_cons (pg_name (i := 4) sc_l_scheme.nd rfl (Or.inl rfl)) (pgs_cons (pg_name (i := 5) sc_l_scheme.nd rfl (Or.inl rfl)) pgs_nil)))))))
      (pss_one (ps_ret (pe_makeK0 T.K_Scheme (ok_Schemeu__initu_ T) (hr.mono (by decide)) (by rfl) T.m_Scheme T.kb_Schemeu__initu_.choose_spec pass0 (pk_cons (pe_call (ok_l_wrap T) (hr.mono (by decide)) (by rfl) T.m_l_wrap T.F_l_wrap.kp T.b_l_wrap .nil pass0 (pa_cons (pv 1) pa_nil)) (pk_cons (pv 2) (pk_cons (pv 3) (pk_cons (pe_call (ok_l_rule T) (hr.mono (by decide)) (by rfl) T.m_l_rule T.F_l_rule.kp T.b_l_rule .nil pass0 (pa_cons (pv 4) pa_nil)) (pk_cons (pv 5) pk_nil))))))))), ?_⟩
    try dsimp only [L2.cxOf, L2.Cx.nox, L2.Cx.wish]
    with_reducible refine Rd.seq (Rd.asg (Rd.var (by walk_at "vr") ?_))
    refine Rd.gtup (by walk_at "hpt") rfl ?_
    with_reducible refine Rd.gcons (Rd.name (Rd.gcons (Rd.name (Rd.gcons (Rd.name (Rd.gcons (Rd.name (Rd.gcons (Rd.name (Rd.gnil (Rd.ret ?_)))))))))))
    with_reducible refine Rd.mkK (Rd.cons (Rd.call (Rd.cons (Rd.var (by walk_at "vr") (Rd.nil ?_)))))
    refine ⟨_, _, rfl, (by assumption), fun v1 H1 S1 i1 => ?_⟩
    with_reducible refine Rd.cons (Rd.var (by walk_at "vr") (Rd.cons (Rd.var (by walk_at "vr") (Rd.cons (Rd.call (Rd.cons (Rd.var (by walk_at "vr") (Rd.nil ?_))))))))
    have hf1 := hf.same S1
    refine ⟨_, _, rfl, hf1, fun v2 H2 S2 i2 => ?_⟩
    with_reducible refine Rd.cons (Rd.var (by walk_at "vr") (Rd.nil ?_))
    refine ⟨rfl, rfl, ?_⟩
    intro x3 dx3 nx3 ndx3 ne3
    refine ⟨_, _, _, _, t, rfl, L2.upd_same, (i1.same (by walk_at "frm")), (i2.same (by walk_at "frm")), wf, fun d3 H3 F3 nd3 a3 b3 => ⟨rfl, ?_⟩⟩
    have ex := i1.same (H' := H3) (by walk_at "frm")
    have ef := i2.same (H' := H3) (by walk_at "frm")
    exact k _ _ (by walk_at "frm") (by walk_at "nn") ⟨_, _, _, _, a3, b3, ex, ef⟩
/-! _law_modulus -/
theorem sc_l_modulus : FnScope ["_law_turning", "_law_n", "_law_found", "_law_turn"] ["_law_turning", "_law_n"] (defScope s_l_modulus) := ⟨rfl, rfl, rfl, by decide +kernel, rfl, by decide +kernel, by decide +kernel⟩
abbrev sp_l_modulus (K : PySem.W.Frag) (A : Adr) : Sp := fun vs H Q _ => ∃ (v : V) (t : Wr) (n : Int), vs = [v, .int n] ∧ IsTurn H v t ∧ WfW t ∧ 1 ≤ n ∧ n ≤ 1000000000000000000000000000000 ∧ Q (.int (modV t n)) H
theorem ok_l_modulus (T : Txt w K mg A) : FnOk P w K mg base CX0 1 A.f_l_modulus A.d_l_modulus ["_law_turning", "_law_n"] (sp_l_modulus K A) := by
  refine T.F_l_modulus.ok sc_l_modulus (fun vs H Q E h => ?_) (fun cdv Ar outer s H vs Q E hr h => ?_)
  · obtain ⟨v, t, n, rfl, ht, hf, n1, n2, k⟩ := h
    rfl
  · obtain ⟨v, t, n, rfl, ht, hf, n1, n2, k⟩ := h
    have hu := hu_of hr
    have t_q_PART_NAMES := T.q_PART_NAMES
    have t_q_PART_WORDS_slot := T.q_PART_WORDS_slot
    have t_d_PART_WORDS_slot := T.d_PART_WORDS_slot
    have t_q_PART_WORDS_empty := T.q_PART_WORDS_empty
    have t_d_PART_WORDS_empty := T.d_PART_WORDS_empty
    have t_q_PART_WORDS_when := T.q_PART_WORDS_when
    have t_d_PART_WORDS_when := T.d_PART_WORDS_when
    have t_q_MEASURES := T.q_MEASURES
    have t_q_SIGNS := T.q_SIGNS
    have t_q_PLAIN_FULLS := T.q_PLAIN_FULLS
    have t_i_Form := T.i_Form
    have t_kt_Form_Form := T.kt_Form_Form
    have t_kt_int_Form := T.kt_int_Form
    have t_nf_Form_Form := T.nf_Form_Form
    have t_nf_int_Form := T.nf_int_Form
    have t_k_Form := T.k_Form
    have t_k_Scheme := T.k_Scheme
    rcases t with w | ⟨s, b⟩
    · have ht : v = .int w := ht
      subst ht
      have hf : 1 ≤ w ∧ w ≤ 100 := hf
      refine ⟨_, (pss_cons (ps_if (pt_val (pe_callB (Rd.isi (K := K) rfl) (by rfl) T.n_isinstance (by decide +kernel) (pa_cons (pv 0) (pa_cons (pe_bltn (v := .ty "tuple") (u := .type "tuple") (by rfl) T.n_tuple (by decide +kernel) rfl) pa_nil)))) (pss_one ps_never) pss_nil)
      (pss_cons (ps_set (i := 2) sc_l_modulus.nd rfl (Or.inl rfl) pe_int)
      (pss_cons (ps_for PassesOwn.never rfl (pi_range1 (by rfl) T.n_range (pa_cons (pv 0) pa_nil)) (pg_name (i := 3) sc_l_modulus.nd rfl (Or.inl rfl)) (pss_one (ps_set (i := 2) sc_l_modulus.nd rfl (Or.inl rfl) (pe_op op_mulW (pv 2) pe_int))))
      (pss_one (ps_ret (pv 2)))))), ?_⟩
      try dsimp only [L2.cxOf, L2.Cx.nox, L2.Cx.wish]
      with_reducible refine Rd.seq (Rd.ifS (Rd.tb (Rd.cB (Rd.cons (Rd.var (by walk_at "vr") (Rd.cons (Rd.c (Rd.nil ?_))))))))
      refine ⟨_, _, _, _, _, rfl, (by walk_at "clsv"), (by walk_at "tyx"), (by walk_at "kit"), ?_⟩
      with_reducible refine Rd.bl (Rd.iteF (by first | with_unfolding_all rfl | walk_at "bF") (Rd.next (Rd.seq (Rd.asg (Rd.c (Rd.name ?_))))))
      try dsimp only [Int.reduceToNat, List.set]
      with_reducible refine Rd.seq (Rd.fr (Rd.rng1 (Rd.cons (Rd.var (by walk_at "vr") (Rd.nil (⟨_, rfl, (by walk_at "sc"), (by walk_at "sc"), ?_⟩))))))
      refine for_range (lo := 0) (fun (i : Nat) (σ : L2.St) (H' : Hp) => ∃ vt : Option V, σ = [some (.int w), some (.int n), some (.int (2 ^ i)), vt] ∧ H' = H) ⟨_, rfl, rfl⟩ (fun i σ H0 hi ⟨vt, es, eh⟩ => ?_) (fun σ H0 ⟨vt, es, eh⟩ => ?_)
      · subst es eh
        have pw := pow_le (i := i) (by omega)
        have pp := pow_pos2 i
        with_reducible refine Rd.name (Rd.asg (Rd.op (Rd.var (by walk_at "vr") (Rd.c (Rd.iC (by walk_at "scm") (Rd.name ?_))))))
        try dsimp only [Int.reduceToNat, List.set]
        exact ⟨_, by rw [Int.pow_succ], rfl⟩
      · subst es eh
        have k : Q (.int (1 * 2 ^ w.toNat)) H0 := k
        rw [Int.one_mul] at k
        with_reducible refine Rd.ret (Rd.var (by walk_at "vr") ?_)
        exact k
    · obtain ⟨p, rfl, hp⟩ := ht
      have hf : 0 ≤ s ∧ s ≤ 4 ∧ -20 ≤ b ∧ b ≤ 20 := hf
      refine ⟨_, (pss_cons (ps_if (pt_val (pe_callB (Rd.isi (K := K) rfl) (by rfl) T.n_isinstance (by decide +kernel) (pa_cons (pv 0) (pa_cons (pe_bltn (v := .ty "tuple") (u := .type "tuple") (by rfl) T.n_tuple (by decide +kernel) rfl) pa_nil)))) (pss_one (ps_ret (pe_op op_add (pe_op op_mulW (pe_ix (Rd.ixTK rfl) (pv 0) pe_int (fun _ _ => rfl)) (pv 1)) (pe_ix (Rd.ixTK rfl) (pv 0) pe_int (fun _ _ => rfl))))) pss_nil)
      (pss_cons ps_never (pss_cons ps_never (pss_one ps_never)))), ?_⟩
      try dsimp only [L2.cxOf, L2.Cx.nox, L2.Cx.wish]
      with_reducible refine Rd.seq (Rd.ifS (Rd.tb (Rd.cB (Rd.cons (Rd.var (by walk_at "vr") (Rd.cons (Rd.c (Rd.nil ?_))))))))
      refine ⟨_, _, _, _, _, rfl, (by walk_at "clsv"), (by walk_at "tyx"), (by walk_at "kit"), ?_⟩
      with_reducible refine Rd.bl (Rd.iteT (by first | with_unfolding_all rfl | walk_at "bT") (Rd.ret (Rd.op (Rd.op (Rd.op (Rd.var (by walk_at "vr") (Rd.c (Rd.ixT (by walk_at "hpt") (by walk_at "vr") (Rd.var (by walk_at "vr") (Rd.iC (by walk_at "scm") (Rd.op ?_)))))))))))
      with_reducible refine Rd.var (by walk_at "vr") (Rd.c (Rd.ixT (by walk_at "hpt") (by walk_at "vr") (Rd.i0 ?_)))
      exact k
/-! _law_slot -/
theorem sc_l_slot : FnScope ["_law_rule_here", "_law_n", "_law_c"] ["_law_rule_here", "_law_n", "_law_c"] (defScope s_l_slot) := ⟨rfl, rfl, rfl, by decide +kernel, rfl, by decide +kernel, by decide +kernel⟩
abbrev sp_l_slot (K : PySem.W.Frag) (A : Adr) : Sp := fun vs H Q _ => ∃ (k : Str) (n c : Int), vs = [.str k, .int n, .int c] ∧ k ∈ wSlot ∧ 1 ≤ n ∧ n ≤ 1000000000000000000000000000000 ∧ Q (slotV k n c) H
theorem ok_l_slot (T : Txt w K mg A) : FnOk P w K mg base CX0 1 A.f_l_slot A.d_l_slot ["_law_rule_here", "_law_n", "_law_c"] (sp_l_slot K A) := by
  refine T.F_l_slot.ok sc_l_slot (fun vs H Q E h => ?_) (fun cdv Ar outer s H vs Q E hr h => ?_)
  · obtain ⟨kd, n, c, rfl, hk, n1, n2, k⟩ := h
    rfl
  · obtain ⟨kd, n, c, rfl, hk, n1, n2, k⟩ := h
    have hu := hu_of hr
    have t_q_PART_NAMES := T.q_PART_NAMES
    have t_q_PART_WORDS_slot := T.q_PART_WORDS_slot
    have t_d_PART_WORDS_slot := T.d_PART_WORDS_slot
    have t_q_PART_WORDS_empty := T.q_PART_WORDS_empty
    have t_d_PART_WORDS_empty := T.d_PART_WORDS_empty
    have t_q_PART_WORDS_when := T.q_PART_WORDS_when
    have t_d_PART_WORDS_when := T.d_PART_WORDS_when
    have t_q_MEASURES := T.q_MEASURES
    have t_q_SIGNS := T.q_SIGNS
    have t_q_PLAIN_FULLS := T.q_PLAIN_FULLS
    have t_i_Form := T.i_Form
    have t_kt_Form_Form := T.kt_Form_Form
    have t_kt_int_Form := T.kt_int_Form
    have t_nf_Form_Form := T.nf_Form_Form
    have t_nf_int_Form := T.nf_int_Form
    have t_k_Form := T.k_Form
    have t_k_Scheme := T.k_Scheme
    rcases slot3 hk with rfl | rfl | rfl
    rotate_left 2
    rcases (by omega : c < n ∨ (¬ c < n ∧ c < 2 * n) ∨ (¬ c < n ∧ ¬ c < 2 * n)) with h1 | ⟨h1, h2⟩ | ⟨h1, h2⟩
    rotate_left 3
    · skip
      refine ⟨_, (pss_cons (ps_if (pt_cmpR op_eq (pv 0) pe_str (nomark _)) (pss_one (ps_ret (pe_op op_mod (pe_callTy call_int1 (by rfl) T.n_int (by decide +kernel) (pa_cons (pv 2) pa_nil)) (pv 1)))) pss_nil)
      (pss_cons ps_never (pss_cons ps_never (pss_cons ps_never (pss_one ps_never))))), ?_⟩
      try dsimp only [L2.cxOf, L2.Cx.nox, L2.Cx.wish]
      with_reducible refine Rd.seq (Rd.ifS (Rd.test (Rd.op (Rd.var (by walk_at "vr") (Rd.c (Rd.eqS (by walk_at "vr") (Rd.bl (Rd.iteT (by first | with_unfolding_all rfl | walk_at "bT") (Rd.ret (Rd.op (Rd.cB ?_)))))))))))
      with_reducible refine Rd.cons (Rd.var (by walk_at "vr") (Rd.nil ((.inl ⟨_, rfl, (Rd.var (by walk_at "vr") (Rd.iC (by walk_at "sc") ?_))⟩))))
      rw [slotV_rest] at k
      exact k
    · skip
      refine ⟨_, (pss_cons (ps_if (pt_cmpR op_eq (pv 0) pe_str (nomark _)) (pss_one ps_never) pss_nil)
      (pss_cons (ps_if (pt_cmpR op_eq (pv 0) pe_str (nomark _)) (pss_one (ps_ret (pe_op op_and (pv 2) (pe_op op_sub (pv 1) pe_int)))) pss_nil)
      (pss_cons ps_never (pss_cons ps_never (pss_one ps_never))))), ?_⟩
      try dsimp only [L2.cxOf, L2.Cx.nox, L2.Cx.wish]
      with_reducible refine Rd.seq (Rd.ifS (Rd.test (Rd.op (Rd.var (by walk_at "vr") (Rd.c (Rd.eqS (by walk_at "vr") (Rd.bl (Rd.iteF (by first | with_unfolding_all rfl | walk_at "bF") (Rd.next (Rd.seq (Rd.ifS ?_)))))))))))
      with_reducible refine Rd.test (Rd.op (Rd.var (by walk_at "vr") (Rd.c (Rd.eqS (by walk_at "vr") (Rd.bl (Rd.iteT (by first | with_unfolding_all rfl | walk_at "bT") (Rd.ret (Rd.op (Rd.var (by walk_at "vr") (Rd.op (Rd.var (by walk_at "vr") ?_)))))))))))
      with_reducible refine Rd.c (Rd.i0 (Rd.i0 ?_))
      rw [slotV_mask] at k
      exact k
    · skip
      refine ⟨_, (pss_cons (ps_if (pt_cmpR op_eq (pv 0) pe_str (nomark _)) (pss_one ps_never) pss_nil)
      (pss_cons (ps_if (pt_cmpR op_eq (pv 0) pe_str (nomark _)) (pss_one ps_never) pss_nil)
      (pss_cons (ps_if (pt_cmpR op_lt (pv 2) (pv 1) (nomark _)) (pss_one (ps_ret (pv 2))) pss_nil)
      (pss_cons ps_never (pss_one ps_never))))), ?_⟩
      try dsimp only [L2.cxOf, L2.Cx.nox, L2.Cx.wish]
      with_reducible refine Rd.seq (Rd.ifS (Rd.test (Rd.op (Rd.var (by walk_at "vr") (Rd.c (Rd.eqS (by walk_at "vr") (Rd.bl (Rd.iteF (by first | with_unfolding_all rfl | walk_at "bF") (Rd.next (Rd.seq (Rd.ifS ?_)))))))))))
      with_reducible refine Rd.test (Rd.op (Rd.var (by walk_at "vr") (Rd.c (Rd.eqS (by walk_at "vr") (Rd.bl (Rd.iteF (by first | with_unfolding_all rfl | walk_at "bF") (Rd.next (Rd.seq (Rd.ifS (Rd.test (Rd.op ?_)))))))))))
      with_reducible refine Rd.var (by walk_at "vr") (Rd.var (by walk_at "vr") (Rd.i0 (Rd.bl (Rd.iteT (by walk_at "bT") (Rd.ret (Rd.var (by walk_at "vr") ?_))))))
      rw [slotV_off, if_pos h1] at k
      exact k
    · skip
      refine ⟨_, (pss_cons (ps_if (pt_cmpR op_eq (pv 0) pe_str (nomark _)) (pss_one ps_never) pss_nil)
      (pss_cons (ps_if (pt_cmpR op_eq (pv 0) pe_str (nomark _)) (pss_one ps_never) pss_nil)
      (pss_cons (ps_if (pt_cmpR op_lt (pv 2) (pv 1) (nomark _)) (pss_one ps_never) pss_nil)
      (pss_cons (ps_if (pt_cmpR op_lt (pv 2) (pe_op op_mulW pe_int (pv 1)) (nomark _)) (pss_one (ps_ret (pe_op op_sub (pv 2) (pv 1)))) pss_nil)
      (pss_one ps_never))))), ?_⟩
      try dsimp only [L2.cxOf, L2.Cx.nox, L2.Cx.wish]
      with_reducible refine Rd.seq (Rd.ifS (Rd.test (Rd.op (Rd.var (by walk_at "vr") (Rd.c (Rd.eqS (by walk_at "vr") (Rd.bl (Rd.iteF (by first | with_unfolding_all rfl | walk_at "bF") (Rd.next (Rd.seq (Rd.ifS ?_)))))))))))
      with_reducible refine Rd.test (Rd.op (Rd.var (by walk_at "vr") (Rd.c (Rd.eqS (by walk_at "vr") (Rd.bl (Rd.iteF (by first | with_unfolding_all rfl | walk_at "bF") (Rd.next (Rd.seq (Rd.ifS (Rd.test (Rd.op ?_)))))))))))
      with_reducible refine Rd.var (by walk_at "vr") (Rd.var (by walk_at "vr") (Rd.i0 (Rd.bl (Rd.iteF (by walk_at "bF") (Rd.next (Rd.seq (Rd.ifS (Rd.test (Rd.op (Rd.var (by walk_at "vr") (Rd.op ?_)))))))))))
      with_reducible refine Rd.c (Rd.var (by walk_at "vr") (Rd.iC (by walk_at "scm") (Rd.i0 (Rd.bl (Rd.iteT (by walk_at "bT") (Rd.ret (Rd.op (Rd.var (by walk_at "vr") (Rd.var (by walk_at "vr") (Rd.i0 ?_))))))))))
      rw [slotV_off, if_neg h1, if_pos h2] at k
      exact k
    · skip
      refine ⟨_, (pss_cons (ps_if (pt_cmpR op_eq (pv 0) pe_str (nomark _)) (pss_one ps_never) pss_nil)
      (pss_cons (ps_if (pt_cmpR op_eq (pv 0) pe_str (nomark _)) (pss_one ps_never) pss_nil)
      (pss_cons (ps_if (pt_cmpR op_lt (pv 2) (pv 1) (nomark _)) (pss_one ps_never) pss_nil)
      (pss_cons (ps_if (pt_cmpR op_lt (pv 2) (pe_op op_mulW pe_int (pv 1)) (nomark _)) (pss_one ps_never) pss_nil)
      (pss_one (ps_ret pe_non)))))), ?_⟩
      try dsimp only [L2.cxOf, L2.Cx.nox, L2.Cx.wish]
      with_reducible refine Rd.seq (Rd.ifS (Rd.test (Rd.op (Rd.var (by walk_at "vr") (Rd.c (Rd.eqS (by walk_at "vr") (Rd.bl (Rd.iteF (by first | with_unfolding_all rfl | walk_at "bF") (Rd.next (Rd.seq (Rd.ifS ?_)))))))))))
      with_reducible refine Rd.test (Rd.op (Rd.var (by walk_at "vr") (Rd.c (Rd.eqS (by walk_at "vr") (Rd.bl (Rd.iteF (by first | with_unfolding_all rfl | walk_at "bF") (Rd.next (Rd.seq (Rd.ifS (Rd.test (Rd.op ?_)))))))))))
      with_reducible refine Rd.var (by walk_at "vr") (Rd.var (by walk_at "vr") (Rd.i0 (Rd.bl (Rd.iteF (by walk_at "bF") (Rd.next (Rd.seq (Rd.ifS (Rd.test (Rd.op (Rd.var (by walk_at "vr") (Rd.op ?_)))))))))))
      with_reducible refine Rd.c (Rd.var (by walk_at "vr") (Rd.iC (by walk_at "scm") (Rd.i0 (Rd.bl (Rd.iteF (by walk_at "bF") (Rd.next (Rd.ret (Rd.c ?_))))))))
      rw [slotV_off, if_neg h1, if_neg h2] at k
      exact k
/-! _law_gap -/
theorem sc_l_gap : FnScope ["_law_slots", "_law_c", "_law_modulus_here", "_law_gap_here"] ["_law_slots", "_law_c"] (defScope s_l_gap) := ⟨rfl, rfl, rfl, by decide +kernel, rfl, by decide +kernel, by decide +kernel⟩
abbrev sp_l_gap (K : PySem.W.Frag) (A : Adr) : Sp := fun vs H Q _ => ∃ (l : Addr) (k : Str) (n M c : Int), vs = [.ref l, .int c] ∧ SqL K H l (SL k n M.toNat) ∧ 1 ≤ M ∧ M ≤ 60 ∧ 0 ≤ c ∧ c < M ∧ Ints k n M ∧ ∀ g, IsGap k n M c g → Q (.int g) H
theorem ok_l_gap (T : Txt w K mg A) : FnOk P w K mg base CX0 1 A.f_l_gap A.d_l_gap ["_law_slots", "_law_c"] (sp_l_gap K A) := by
  refine T.F_l_gap.ok sc_l_gap (fun vs H Q E h => ?_) (fun cdv Ar outer s H vs Q E hr h => ?_)
  · obtain ⟨l, k, n, M, c, rfl, hl, m1, m2, c0, cM, hi, kk⟩ := h
    rfl
  · obtain ⟨l, k, n, M, c, rfl, hl, m1, m2, c0, cM, hi, kk⟩ := h
    have hu := hu_of hr
    have t_q_PART_NAMES := T.q_PART_NAMES
    have t_q_PART_WORDS_slot := T.q_PART_WORDS_slot
    have t_d_PART_WORDS_slot := T.d_PART_WORDS_slot
    have t_q_PART_WORDS_empty := T.q_PART_WORDS_empty
    have t_d_PART_WORDS_empty := T.d_PART_WORDS_empty
    have t_q_PART_WORDS_when := T.q_PART_WORDS_when
    have t_d_PART_WORDS_when := T.d_PART_WORDS_when
    have t_q_MEASURES := T.q_MEASURES
    have t_q_SIGNS := T.q_SIGNS
    have t_q_PLAIN_FULLS := T.q_PLAIN_FULLS
    have t_i_Form := T.i_Form
    have t_kt_Form_Form := T.kt_Form_Form
    have t_kt_int_Form := T.kt_int_Form
    have t_nf_Form_Form := T.nf_Form_Form
    have t_nf_int_Form := T.nf_int_Form
    have t_k_Form := T.k_Form
    have t_k_Scheme := T.k_Scheme
    have eM : (((SL k n M.toNat).length : Nat) : Int) = M := by rw [SL_len]; omega
    refine ⟨_, (pss_cons (ps_set (i := 2) sc_l_gap.nd rfl (Or.inl rfl) (pe_callB call_len_seq (by rfl) T.n_len PySem.boot_len (pa_cons (pv 0) pa_nil)))
      (pss_cons (ps_for PassesOwn.never rfl (pi_range2 (by rfl) T.n_range (pa_cons pe_int (pa_cons (pv 2) pa_nil))) (pg_name (i := 3) sc_l_gap.nd rfl (Or.inl rfl)) (pss_one (ps_if (pt_cmpR op_eq (pe_ix (Rd.ixLK rfl) (pv 0) (pe_op op_mod (pe_callTy call_int1 (by rfl) T.n_int (by decide +kernel) (pa_cons (pe_op op_add (pv 1) (pv 3)) pa_nil)) (pv 2)) (fun _ _ => rfl)) (pe_ix (Rd.ixLK rfl) (pv 0) (pv 1) (fun _ _ => rfl)) (nomark _)) (pss_one (ps_ret (pv 3))) pss_nil)))
      (pss_one (ps_ret (pv 2))))), ?_⟩
    try dsimp only [L2.cxOf, L2.Cx.nox, L2.Cx.wish]
    with_reducible refine Rd.seq (Rd.asg (Rd.cB (Rd.cons (Rd.var (by walk_at "vr") (Rd.nil (⟨_, _, rfl, (by walk_at "hpq"), (Rd.name ?_)⟩))))))
    try dsimp only [Int.reduceToNat, List.set]
    rw [eM]
    with_reducible refine Rd.seq (Rd.fr (Rd.rng2 (Rd.cons (Rd.c (Rd.cons (Rd.var (by walk_at "vr") (Rd.nil (⟨_, _, rfl, ⟨(by walk_at "sc"), (by walk_at "sc"), (by walk_at "sc"), (by walk_at "sc")⟩, ?_⟩))))))))
    refine for_range (lo := 1) (fun (i : Nat) (σ : L2.St) (H' : Hp) => ∃ vg : Option V, σ = [some (.ref l), some (.int c), some (.int M), vg] ∧ H' = H ∧ ∀ h : Int, 1 ≤ h → h ≤ i → slotV k n ((c + h) % M) ≠ .int (slI k n c)) ⟨_, rfl, rfl, fun h h1 h2 => absurd h1 (by omega)⟩ (fun i σ H0 hi9 ⟨vg, es, eh, hno⟩ => ?_) (fun σ H0 ⟨vg, es, eh, hno⟩ => ?_)
    · subst es eh
      with_reducible refine Rd.name (Rd.ifS (Rd.test (Rd.op (Rd.op (Rd.var (by walk_at "vr") (Rd.op (Rd.cB (Rd.cons (Rd.op (Rd.var (by walk_at "vr") (Rd.var (by walk_at "vr") ?_)))))))))))
      with_reducible refine Rd.i0 (Rd.nil ((.inl ⟨_, rfl, (Rd.var (by walk_at "vr") (Rd.iC (by walk_at "sc") ?_))⟩)))
      have a0 := Int.emod_nonneg (c + (1 + (i : Int))) (show M ≠ 0 by omega)
      have a1 := Int.emod_lt_of_pos (c + (1 + (i : Int))) (show 0 < M by omega)
      refine Rd.ixL (by walk_at "hpl") (atSL a0 a1) ?_
      with_reducible refine Rd.op (Rd.var (by walk_at "vr") (Rd.var (by walk_at "vr") ?_))
      have at0 := atSL (k := k) (n := n) c0 cM
      rw [hi c c0 cM] at at0
      refine Rd.ixL (by walk_at "hpl") at0 ?_
      refine Rd.eqS (slotV_scal _ _ _ _) ?_
      with_reducible refine Rd.bl ?_
      refine Rd.ite (fun h0 => ?_) (fun h0 => ?_)
      · try simp only [decide_eq_true_eq, Bool.not_eq_true', decide_eq_false_iff_not, Bool.not_eq_true, Bool.not_eq_eq_eq_not, Bool.not_true, Bool.not_false] at h0
        with_reducible refine Rd.ret (Rd.var (by walk_at "vr") ?_)
        refine kk _ ⟨by omega, by omega, ?_, fun h h1 h2 => ?_⟩
        · rw [hi c c0 cM]
          exact h0
        · rw [hi c c0 cM]
          exact hno h h1 (by omega)
      · try simp only [decide_eq_true_eq, Bool.not_eq_true', decide_eq_false_iff_not, Bool.not_eq_true, Bool.not_eq_eq_eq_not, Bool.not_true, Bool.not_false, Int.not_lt, Int.not_le, Decidable.not_not] at h0
        with_reducible refine Rd.next ?_
        refine ⟨_, rfl, rfl, fun h h1 h2 => ?_⟩
        rcases (by omega : h ≤ (i : Int) ∨ h = 1 + (i : Int)) with h3 | h3
        · exact hno h h1 h3
        · subst h3
          first | assumption | (intro z; simp_all)
    · subst es eh
      with_reducible refine Rd.ret (Rd.var (by walk_at "vr") ?_)
      refine kk _ ⟨by omega, by omega, ?_, fun h h1 h2 => ?_⟩
      · rw [Int.add_emod_right, Int.emod_eq_of_lt c0 cM]
      · rw [hi c c0 cM]
        exact hno h h1 (by omega)
/-! _law_unlike -/
theorem sc_l_unlike : FnScope ["_law_slots", "_law_many", "_law_modulus_here", "_law_c", "_law_row", "_law_k"] ["_law_slots", "_law_many"] (defScope s_l_unlike) := ⟨rfl, rfl, rfl, by decide +kernel, rfl, by decide +kernel, by decide +kernel⟩
abbrev sp_l_unlike (K : PySem.W.Frag) (A : Adr) : Sp := fun vs H Q _ => ∃ (l : Addr) (k : Str) (n M m : Int), vs = [.ref l, .int m] ∧ SqL K H l (SL k n M.toNat) ∧ 1 ≤ M ∧ M ≤ 60 ∧ 0 ≤ m ∧ m ≤ 100 ∧ Ints k n M ∧ ((Alls k n M m ∧ ∀ H', Same H H' → Q (.bl true) H') ∨ (¬ Alls k n M m ∧ ∀ H', Same H H' → Q (.bl false) H'))
theorem ok_l_unlike (T : Txt w K mg A) : FnOk P w K mg base CX0 1 A.f_l_unlike A.d_l_unlike ["_law_slots", "_law_many"] (sp_l_unlike K A) := by
  refine T.F_l_unlike.ok sc_l_unlike (fun vs H Q E h => ?_) (fun cdv Ar outer s H vs Q E hr h => ?_)
  · obtain ⟨l, k, n, M, m, rfl, hl, m1, m2, i0, i1, hI, hk⟩ := h
    rfl
  · obtain ⟨l, k, n, M, m, rfl, hl, m1, m2, i0, i1, hI, hk⟩ := h
    have hu := hu_of hr
    have t_q_PART_NAMES := T.q_PART_NAMES
    have t_q_PART_WORDS_slot := T.q_PART_WORDS_slot
    have t_d_PART_WORDS_slot := T.d_PART_WORDS_slot
    have t_q_PART_WORDS_empty := T.q_PART_WORDS_empty
    have t_d_PART_WORDS_empty := T.d_PART_WORDS_empty
    have t_q_PART_WORDS_when := T.q_PART_WORDS_when
    have t_d_PART_WORDS_when := T.d_PART_WORDS_when
    have t_q_MEASURES := T.q_MEASURES
    have t_q_SIGNS := T.q_SIGNS
    have t_q_PLAIN_FULLS := T.q_PLAIN_FULLS
    have t_i_Form := T.i_Form
    have t_kt_Form_Form := T.kt_Form_Form
    have t_kt_int_Form := T.kt_int_Form
    have t_nf_Form_Form := T.nf_Form_Form
    have t_nf_int_Form := T.nf_int_Form
    have t_k_Form := T.k_Form
    have t_k_Scheme := T.k_Scheme
    have eM : (((SL k n M.toNat).length : Nat) : Int) = M := by rw [SL_len]; omega
    rcases hk with ⟨ha, kk⟩ | ⟨ha, kk⟩
    · skip
      refine ⟨_, (pss_cons (ps_set (i := 2) sc_l_unlike.nd rfl (Or.inr rfl) (pe_callB call_len_seq (by rfl) T.n_len PySem.boot_len (pa_cons (pv 0) pa_nil)))
      (pss_cons (ps_for PassesOwn.never rfl (pi_range1 (by rfl) T.n_range (pa_cons (pv 2) pa_nil)) (pg_name (i := 3) sc_l_unlike.nd rfl (Or.inr rfl)) (pss_cons (ps_setLc (i := 4) (own := [("_law_k", 5)]) (g := gName 5) rfl sc_l_unlike.nd rfl rfl (sw_true rfl rfl rfl (by decide +kernel)) (pi_range1 (by rfl) T.n_range (pa_cons (pv 1) pa_nil)) (blkOk_by (own := [("_law_k", 5)]) (N := ["_law_slots", "_law_many", "_law_modulus_here", "_law_c", "_law_row", "_law_k"]) (sc := defScope s_l_unlike) (by decide +kernel)) (fun _ _ _ _ _ => (pg_name (i := 5) sc_l_unlike.nd rfl (Or.inl rfl))) (fun _ _ _ _ _ => pts_nil) (fun _ _ _ _ _ => (pe_ix (Rd.ixLK rfl) (pv 0) (pe_op op_mod (pe_callTy call_int1 (by rfl) T.n_int (by decide +kernel) (pa_cons (pe_op op_add (pv 3) (pv 5)) pa_nil)) (pv 2)) (fun _ _ => rfl))))
      (pss_one (ps_if (pt_cmpR op_ne (SrK.pe_lenG (by rfl) T.n_len (by rfl) T.n_set (pv 4)) (pv 1) (nomark _)) (pss_one ps_never) pss_nil))))
      (pss_one (ps_ret pe_bl)))), ?_⟩
      try dsimp only [L2.cxOf, L2.Cx.nox, L2.Cx.wish]
      with_reducible refine Rd.seq (Rd.asg (Rd.cB (Rd.cons (Rd.var (by walk_at "vr") (Rd.nil (⟨_, _, rfl, (by walk_at "hpq"), (Rd.name ?_)⟩))))))
      try dsimp only [Int.reduceToNat, List.set]
      rw [eM]
      with_reducible refine Rd.seq (Rd.fr (Rd.rng1 (Rd.cons (Rd.var (by walk_at "vr") (Rd.nil (⟨_, rfl, (by walk_at "sc"), (by walk_at "sc"), ?_⟩))))))
      refine for_range (lo := 0) (fun (i : Nat) (σ : L2.St) (H' : Hp) => ∃ v3 v4 v5 : Option V, σ = [some (.ref l), some (.int m), some (.int M), v3, v4, v5] ∧ Same H H' ∧ ∀ c : Int, 0 ≤ c → c < (i : Int) → (rowI k n M c m.toNat).Nodup) ⟨_, _, _, rfl, Same.refl _, fun c a b => by omega⟩ (fun i σ H0 hi9 ⟨v3, v4, v5, es, S0, hno⟩ => ?_) (fun σ H0 ⟨v3, v4, v5, es, S0, hno⟩ => ?_)
      · subst es
        have hl0 := Same.seq S0 hl
        obtain ⟨cc, ecc⟩ : ∃ cc : Int, cc = 0 + (i : Int) := ⟨_, rfl⟩
        rw [← ecc]
        with_reducible refine Rd.name (Rd.seq (Rd.asg (Rd.lc (Rd.rng1 (Rd.cons (Rd.var (by walk_at "vr") (Rd.nil (⟨_, rfl, (by walk_at "sc"), (by walk_at "sc"), ?_⟩))))))))
        intro D0 nD0
        refine' lc_range (lo := 0) (fun j H' => Same H0 H' ∧ H' D0 = some (.lst ((rowI k n M cc j).map V.int))) (⟨by walk_at "frm", L2.upd_same⟩) (fun i H' hi p => ?lct0_u20) (fun H' p => ?lcd0_u20)
        case lct0_u20 =>
          obtain ⟨S9, hD⟩ := p
          have hl9 := Same.seq S9 hl0
          have a0 := Int.emod_nonneg (cc + (0 + (i : Int))) (show M ≠ 0 by omega)
          have a1 := Int.emod_lt_of_pos (cc + (0 + (i : Int))) (show 0 < M by omega)
          have lr := row_len k n M cc i
          have al9 : ((rowI k n M cc i).map V.int).length ≤ 900 := by rw [List.length_map, lr]; omega
          have ix9 := atSL (k := k) (n := n) a0 a1
          with_reducible refine Rd.name ?_
          refine ⟨rfl, ?_⟩
          refine Rd.yes (Rd.iteT rfl ?_)
          with_reducible refine Rd.op (Rd.var (by walk_at "vr") (Rd.op (Rd.cB (Rd.cons (Rd.op (Rd.var (by walk_at "vr") (Rd.var (by walk_at "vr") (Rd.i0 (Rd.nil ((.inl ⟨_, rfl, (Rd.var (by walk_at "vr") ?_)⟩)))))))))))
          with_reducible refine Rd.iC (by walk_at "sc") ?_
          rw [hI _ a0 a1] at ix9
          refine Rd.ixL (by walk_at "hpl") ix9 ?_
          refine ⟨_, (by walk_at "hp"), (by walk_at "sz"), ?_⟩
          refine ⟨by walk_at "frm", ?_⟩
          rw [row_succ, List.map_append]
          exact L2.upd_same
        obtain ⟨S9, hD9⟩ := p
        with_reducible refine Rd.name ?_
        try dsimp only [Int.reduceToNat, List.set]
        with_reducible refine Rd.ifS (Rd.test (Rd.op (Rd.lenG (Rd.var (by walk_at "vr") ?_))))
        refine ⟨_, _, rfl, .of hD9, (by rw [row_len]; omega), fun ls1 ls1e => ?_⟩
        rw [row_len] at ls1e
        have ls1q := ls1e.mpr (ha _ (by omega) (by omega))
        have ls1z : (!decide (V.int (ls1 : Nat) = V.int m)) = false := by rw [show ((ls1 : Nat) : Int) = m by omega]; exact neSelf _
        with_reducible refine Rd.var (by walk_at "vr") (Rd.neS (by walk_at "vr") (Rd.bl (Rd.iteF (by walk_at "bF") (Rd.next ?_))))
        refine ⟨_, _, _, rfl, (by walk_at "frm"), fun c a b => ?_⟩
        rcases (by omega : c < (i : Int) ∨ c = cc) with q | q
        · exact hno c a q
        · subst q
          exact ha _ (by omega) (by omega)
      · subst es
        with_reducible refine Rd.ret (Rd.c ?_)
        exact kk _ (by walk_at "frm")
    · skip
      refine ⟨_, (pss_cons (ps_set (i := 2) sc_l_unlike.nd rfl (Or.inr rfl) (pe_callB call_len_seq (by rfl) T.n_len PySem.boot_len (pa_cons (pv 0) pa_nil)))
      (pss_cons (ps_for PassesOwn.never rfl (pi_range1 (by rfl) T.n_range (pa_cons (pv 2) pa_nil)) (pg_name (i := 3) sc_l_unlike.nd rfl (Or.inr rfl)) (pss_cons (ps_setLc (i := 4) (own := [("_law_k", 5)]) (g := gName 5) rfl sc_l_unlike.nd rfl rfl (sw_true rfl rfl rfl (by decide +kernel)) (pi_range1 (by rfl) T.n_range (pa_cons (pv 1) pa_nil)) (blkOk_by (own := [("_law_k", 5)]) (N := ["_law_slots", "_law_many", "_law_modulus_here", "_law_c", "_law_row", "_law_k"]) (sc := defScope s_l_unlike) (by decide +kernel)) (fun _ _ _ _ _ => (pg_name (i := 5) sc_l_unlike.nd rfl (Or.inl rfl))) (fun _ _ _ _ _ => pts_nil) (fun _ _ _ _ _ => (pe_ix (Rd.ixLK rfl) (pv 0) (pe_op op_mod (pe_callTy call_int1 (by rfl) T.n_int (by decide +kernel) (pa_cons (pe_op op_add (pv 3) (pv 5)) pa_nil)) (pv 2)) (fun _ _ => rfl))))
      (pss_one (ps_if (pt_cmpR op_ne (SrK.pe_lenG (by rfl) T.n_len (by rfl) T.n_set (pv 4)) (pv 1) (nomark _)) (pss_one (ps_ret pe_bl)) pss_nil))))
      (pss_one (ps_ret pe_bl)))), ?_⟩
      try dsimp only [L2.cxOf, L2.Cx.nox, L2.Cx.wish]
      with_reducible refine Rd.seq (Rd.asg (Rd.cB (Rd.cons (Rd.var (by walk_at "vr") (Rd.nil (⟨_, _, rfl, (by walk_at "hpq"), (Rd.name ?_)⟩))))))
      try dsimp only [Int.reduceToNat, List.set]
      rw [eM]
      with_reducible refine Rd.seq (Rd.fr (Rd.rng1 (Rd.cons (Rd.var (by walk_at "vr") (Rd.nil (⟨_, rfl, (by walk_at "sc"), (by walk_at "sc"), ?_⟩))))))
      refine for_range (lo := 0) (fun (i : Nat) (σ : L2.St) (H' : Hp) => ∃ v3 v4 v5 : Option V, σ = [some (.ref l), some (.int m), some (.int M), v3, v4, v5] ∧ Same H H' ∧ ∀ c : Int, 0 ≤ c → c < (i : Int) → (rowI k n M c m.toNat).Nodup) ⟨_, _, _, rfl, Same.refl _, fun c a b => by omega⟩ (fun i σ H0 hi9 ⟨v3, v4, v5, es, S0, hno⟩ => ?_) (fun σ H0 ⟨v3, v4, v5, es, S0, hno⟩ => ?_)
      · subst es
        have hl0 := Same.seq S0 hl
        obtain ⟨cc, ecc⟩ : ∃ cc : Int, cc = 0 + (i : Int) := ⟨_, rfl⟩
        rw [← ecc]
        with_reducible refine Rd.name (Rd.seq (Rd.asg (Rd.lc (Rd.rng1 (Rd.cons (Rd.var (by walk_at "vr") (Rd.nil (⟨_, rfl, (by walk_at "sc"), (by walk_at "sc"), ?_⟩))))))))
        intro D0 nD0
        refine' lc_range (lo := 0) (fun j H' => Same H0 H' ∧ H' D0 = some (.lst ((rowI k n M cc j).map V.int))) (⟨by walk_at "frm", L2.upd_same⟩) (fun i H' hi p => ?lct0_u21) (fun H' p => ?lcd0_u21)
        case lct0_u21 =>
          obtain ⟨S9, hD⟩ := p
          have hl9 := Same.seq S9 hl0
          have a0 := Int.emod_nonneg (cc + (0 + (i : Int))) (show M ≠ 0 by omega)
          have a1 := Int.emod_lt_of_pos (cc + (0 + (i : Int))) (show 0 < M by omega)
          have lr := row_len k n M cc i
          have al9 : ((rowI k n M cc i).map V.int).length ≤ 900 := by rw [List.length_map, lr]; omega
          have ix9 := atSL (k := k) (n := n) a0 a1
          with_reducible refine Rd.name ?_
          refine ⟨rfl, ?_⟩
          refine Rd.yes (Rd.iteT rfl ?_)
          with_reducible refine Rd.op (Rd.var (by walk_at "vr") (Rd.op (Rd.cB (Rd.cons (Rd.op (Rd.var (by walk_at "vr") (Rd.var (by walk_at "vr") (Rd.i0 (Rd.nil ((.inl ⟨_, rfl, (Rd.var (by walk_at "vr") ?_)⟩)))))))))))
          with_reducible refine Rd.iC (by walk_at "sc") ?_
          rw [hI _ a0 a1] at ix9
          refine Rd.ixL (by walk_at "hpl") ix9 ?_
          refine ⟨_, (by walk_at "hp"), (by walk_at "sz"), ?_⟩
          refine ⟨by walk_at "frm", ?_⟩
          rw [row_succ, List.map_append]
          exact L2.upd_same
        obtain ⟨S9, hD9⟩ := p
        with_reducible refine Rd.name ?_
        try dsimp only [Int.reduceToNat, List.set]
        with_reducible refine Rd.ifS (Rd.test (Rd.op (Rd.lenG (Rd.var (by walk_at "vr") ?_))))
        refine ⟨_, _, rfl, .of hD9, (by rw [row_len]; omega), fun ls1 ls1e => ?_⟩
        rw [row_len] at ls1e
        with_reducible refine Rd.var (by walk_at "vr") (Rd.neS (by walk_at "vr") (Rd.bl ?_))
        refine Rd.ite (fun h0 => ?_) (fun h0 => ?_)
        · try simp only [decide_eq_true_eq, Bool.not_eq_true', decide_eq_false_iff_not, Bool.not_eq_true, Bool.not_eq_eq_eq_not, Bool.not_true, Bool.not_false] at h0
          with_reducible refine Rd.ret (Rd.c ?_)
          exact kk _ (by walk_at "frm")
        · try simp only [decide_eq_true_eq, Bool.not_eq_true', decide_eq_false_iff_not, Bool.not_eq_true, Bool.not_eq_eq_eq_not, Bool.not_true, Bool.not_false, Int.not_lt, Int.not_le, Decidable.not_not] at h0
          with_reducible refine Rd.next ?_
          refine ⟨_, _, _, rfl, (by walk_at "frm"), fun c a b => ?_⟩
          rcases (by omega : c < (i : Int) ∨ c = cc) with q | q
          · exact hno c a q
          · subst q
            exact ls1e.mp (by
              have q : ((ls1 : Nat) : Int) = m := by simpa using h0
              omega)
      · subst es
        with_reducible refine Rd.ret (Rd.c ?_)
        exact absurd (fun c c0 cM => hno c c0 (by omega)) ha
/-! law -/
theorem sc_law : FnScope ["_law_script", "_law_turn", "_law_source_here", "_law_parts_here", "_law_n", "_law_modulus_here", "_law_scheme_here", "_law_slots", "_law_window", "_law_pair", "_law_gaps", "_law_least", "_law_c"] ["_law_script"] (defScope s_law) := ⟨rfl, rfl, rfl, by decide +kernel, rfl, by decide +kernel, by decide +kernel⟩
abbrev sp_law (K : PySem.W.Frag) : Sp := fun vs H Q _ => ∃ (a : Addr) (ns : List Int), vs = [.ref a] ∧ SqL K H a (ns.map V.int) ∧ ns.length ≤ 63 ∧ ∀ H', Q (.bl true) H'
theorem ok_law (T : Txt w K mg A) : FnOk P w K mg base CX0 9 A.f_law A.d_law ["_law_script"] (sp_law K) := by
  refine T.F_law.ok sc_law (fun vs H Q E h => ?_) (fun cdv Ar outer s H vs Q E hr h => ?_)
  · obtain ⟨a, ns, rfl, hS, hlen, k⟩ := h
    rfl
  · obtain ⟨a, ns, rfl, hS, hlen, k⟩ := h
    have hu := hu_of hr
    have t_q_PART_NAMES := T.q_PART_NAMES
    have t_q_PART_WORDS_slot := T.q_PART_WORDS_slot
    have t_d_PART_WORDS_slot := T.d_PART_WORDS_slot
    have t_q_PART_WORDS_empty := T.q_PART_WORDS_empty
    have t_d_PART_WORDS_empty := T.d_PART_WORDS_empty
    have t_q_PART_WORDS_when := T.q_PART_WORDS_when
    have t_d_PART_WORDS_when := T.d_PART_WORDS_when
    have t_q_MEASURES := T.q_MEASURES
    have t_q_SIGNS := T.q_SIGNS
    have t_q_PLAIN_FULLS := T.q_PLAIN_FULLS
    have t_i_Form := T.i_Form
    have t_kt_Form_Form := T.kt_Form_Form
    have t_kt_int_Form := T.kt_int_Form
    have t_nf_Form_Form := T.nf_Form_Form
    have t_nf_int_Form := T.nf_int_Form
    have t_k_Form := T.k_Form
    have t_k_Scheme := T.k_Scheme
    refine ⟨_, (pss_cons (ps_for PassesOwn.never rfl (pi_range1 (by rfl) T.n_range (pa_cons (pe_callB (call_max2 rfl) (by rfl) T.n_max (by decide +kernel) (pa_cons pe_int (pa_cons (pe_callB (call_min2 rfl) (by rfl) T.n_min (by decide +kernel) (pa_cons (pe_callB call_len_seq (by rfl) T.n_len PySem.boot_len (pa_cons (pv 0) pa_nil)) (pa_cons pe_int pa_nil))) pa_nil))) pa_nil)) (pg_name (i := 1) sc_law.nd rfl (Or.inl rfl)) (pss_cons (ps_set (i := 2) sc_law.nd rfl (Or.inl rfl) (pe_call (ok_l_source T) (hr.mono (by decide)) (by rfl) T.m_l_source T.F_l_source.kp T.b_l_source .nil pass0 (pa_cons (pv 0) (pa_cons (pv 1) pa_nil))))
      (pss_cons (ps_set (i := 3) sc_law.nd rfl (Or.inr rfl) (pe_call (ok_l_parts T) (hr.mono (by decide)) (by rfl) T.m_l_parts T.F_l_parts.kp T.b_l_parts .nil pass0 (pa_cons (pv 2) (pa_cons pe_int pa_nil))))
      (pss_cons (ps_set (i := 4) sc_law.nd rfl (Or.inr rfl) (pe_op op_add pe_int (pe_call (ok_l_draw T) (hr.mono (by decide)) (by rfl) T.m_l_draw T.F_l_draw.kp T.b_l_draw .nil pass0 (pa_cons (pv 2) (pa_cons pe_int pa_nil)))))
      (pss_cons (ps_set (i := 5) sc_law.nd rfl (Or.inl rfl) (pe_call (ok_l_modulus T) (hr.mono (by decide)) (by rfl) T.m_l_modulus T.F_l_modulus.kp T.b_l_modulus .nil pass0 (pa_cons (pe_ix (Rd.ixTK rfl) (pv 3) pe_int (fun _ _ => rfl)) (pa_cons (pv 4) pa_nil))))
      (pss_one (ps_if (pt_cmpR op_ge (pv 5) pe_int (nomark _)) (pss_cons (ps_set (i := 6) sc_law.nd rfl (Or.inl rfl) (pe_call (ok_l_scheme T) (hr.mono (by decide)) (by rfl) T.m_l_scheme T.F_l_scheme.kp T.b_l_scheme .nil pass0 (pa_cons (pv 3) pa_nil)))
      (pss_cons (ps_set (i := 7) sc_law.nd rfl (Or.inr rfl) (pe_lc (own := [ ("_law_c", 12) ]) (g := gName 12) rfl sc_law.nd (pi_range1 (by rfl) T.n_range (pa_cons (pv 5) pa_nil)) (blkOk_by (own := [ ("_law_c", 12) ]) (N := ["_law_script", "_law_turn", "_law_source_here", "_law_parts_here", "_law_n", "_law_modulus_here", "_law_scheme_here", "_law_slots", "_law_window", "_law_pair", "_law_gaps", "_law_least", "_law_c"]) (sc := defScope s_law) (by decide +kernel)) (fun _ _ _ _ _ => (pg_name (i := 12) sc_law.nd rfl (Or.inl rfl))) (fun _ _ _ _ _ => pts_nil) (fun _ _ _ _ _ => (pe_call (ok_l_slot T) (hr.mono (by decide)) (by rfl) T.m_l_slot T.F_l_slot.kp T.b_l_slot .nil pass0 (pa_cons (pe_ix (Rd.ixTK rfl) (pv 3) pe_int (fun _ _ => rfl)) (pa_cons (pv 4) (pa_cons (pv 12) pa_nil))))))) (pss_cons (ps_par (by rfl) sc_law.nd (i := 8) (j := 9) rfl rfl (by decide) rfl rfl (pa_cons (pe_call (ok_window_of T) (hr.mono (by decide)) (by rfl) T.m_window_of T.F_window_of.kp T.b_window_of .nil pass0 (pa_cons (pv 6) (pa_cons (pv 4) pa_nil))) (pa_cons (pe_call (ok_alike_of T) (hr.mono (by decide)) (by rfl) T.m_alike_of T.F_alike_of.kp T.b_alike_of .nil pass0 (pa_cons (pv 6) (pa_cons (pv 4) pa_nil))) pa_nil)) (by rfl)) (pss_cons (ps_if (pt_val (pe_callB (Rd.isi (K := K) rfl) (by rfl) T.n_isinstance (by decide +kernel) (pa_cons (pv 8) (pa_cons (pe_bltn (v := .ty "bool") (u := .type "bool") (by rfl) T.n_bool (by decide +kernel) rfl) pa_nil)))) (pss_one ps_never) pss_nil) (pss_one (ps_if (pt_cmpR op_in_seq pe_non (pv 7) (by with_unfolding_all rfl)) (pss_one (ps_if (PW.pt (pw_or (pt_cmpR op_ne (pv 8) pe_int (nomark _)) (pw_or1 (pt_cmpR op_notN (pv 9) pe_non (nomark _))))) (pss_one ps_never) pss_nil)) (pss_cons (ps_setLc (i := 10) (own := [ ("_law_c", 12) ]) (g := gName 12) rfl sc_law.nd rfl rfl (sw_true rfl rfl rfl (by decide +kernel)) (pi_range1 (by rfl) T.n_range (pa_cons (pv 5) pa_nil)) (blkOk_by (own := [ ("_law_c", 12) ]) (N := ["_law_script", "_law_turn", "_law_source_here", "_law_parts_here", "_law_n", "_law_modulus_here", "_law_scheme_here", "_law_slots", "_law_window", "_law_pair", "_law_gaps", "_law_least", "_law_c"]) (sc := defScope s_law) (by decide +kernel)) (fun _ _ _ _ _ => (pg_name (i := 12) sc_law.nd rfl (Or.inl rfl))) (fun _ _ _ _ _ => pts_nil) (fun _ _ _ _ _ => (pe_call (ok_l_gap T) (hr.mono (by decide)) (by rfl) T.m_l_gap T.F_l_gap.kp T.b_l_gap .nil pass0 (pa_cons (pv 7) (pa_cons (pv 12) pa_nil))))) (pss_cons (ps_set (i := 11) sc_law.nd rfl (Or.inl rfl) (pe_ix (Rd.ixLK rfl) (pe_callBK SrK.ck_sorted (by rfl) T.n_sorted (by decide +kernel) (pa_cons (pv 10) pa_nil) (pk_cons (pe_bltn (v := .ty "int") (u := .type "int") (by rfl) T.n_int (by decide +kernel) rfl) pk_nil)) pe_int (fun _ _ => rfl))) (pss_cons (ps_if (PW.pt (pw_or (pt_not (pt_val (pe_callB (Rd.isi (K := K) rfl) (by rfl) T.n_isinstance (by decide +kernel) (pa_cons (pv 9) (pa_cons (pe_bltn (v := .ty "tuple") (u := .type "tuple") (by rfl) T.n_tuple (by decide +kernel) rfl) pa_nil))))) (pw_or1 (pt_cmpR (op_neD hr.units) (pv 9) (pe_tup (pa_cons (pe_bm PySem.F.plainAttrs_list PySem.F.slot_list_index PySem.F.type_list_index mt_index (pv 10) (pa_cons (pv 11) pa_nil)) (pa_cons (pv 11) pa_nil))) (nomark _))))) (pss_one ps_never) pss_nil) (pss_cons (ps_if (pt_cmpR op_ne (pv 8) (pv 11) (nomark _)) (pss_one ps_never) pss_nil) (pss_cons (ps_if (pt_not (pt_val (pe_call (ok_l_unlike T) (hr.mono (by decide)) (by rfl) T.m_l_unlike T.F_l_unlike.kp T.b_l_unlike .nil pass0 (pa_cons (pv 7) (pa_cons (pv 8) pa_nil))))) (pss_one ps_never) pss_nil) (pss_one (ps_if (PW.pt (pw_and (pt_cmpR op_lt (pv 8) (pv 5) (nomark _)) (pw_and1 (pt_val (pe_call (ok_l_unlike T) (hr.mono (by decide)) (by rfl) T.m_l_unlike T.F_l_unlike.kp T.b_l_unlike .nil pass0 (pa_cons (pv 7) (pa_cons (pe_op op_add (pv 8) pe_int) pa_nil))))))) (pss_one ps_never) pss_nil))))))))))))) pss_nil)))))))
      (pss_one (ps_ret pe_bl))), ?_⟩
    try dsimp only [L2.cxOf, L2.Cx.nox, L2.Cx.wish]
    with_reducible refine Rd.seq (Rd.fr (Rd.rng1 (Rd.cons (Rd.cB (Rd.cons (Rd.c (Rd.cons (Rd.cB (Rd.cons (Rd.cB (Rd.cons ?_)))))))))))
    with_reducible refine Rd.var (by walk_at "vr") (Rd.nil (⟨_, _, rfl, (by walk_at "hpq"), (Rd.cons (Rd.c (Rd.nil (⟨_, _, rfl, (Rd.nil (⟨_, _, rfl, (Rd.nil (⟨_, rfl, (by walk_at "sc"), (by walk_at "sc"), ?_⟩))⟩))⟩))))⟩))
    refine for_range (lo := 0) (fun (_ : Nat) (σ : L2.St) (H' : Hp) => ∃ v_turn v_source_here v_parts_here v_n v_modulus_here v_scheme_here v_slots v_window v_pair v_gaps v_least v_c : Option V, σ = [some (.ref a), v_turn, v_source_here, v_parts_here, v_n, v_modulus_here, v_scheme_here, v_slots, v_window, v_pair, v_gaps, v_least, v_c] ∧ Same H H') ⟨none, none, none, none, none, none, none, none, none, none, none, none, rfl, Same.refl _⟩ (fun i σ H0 hi ⟨v_turn, v_source_here, v_parts_here, v_n, v_modulus_here, v_scheme_here, v_slots, v_window, v_pair, v_gaps, v_least, v_c, es, S0⟩ => ?_) (fun σ H0 ⟨v_turn, v_source_here, v_parts_here, v_n, v_modulus_here, v_scheme_here, v_slots, v_window, v_pair, v_gaps, v_least, v_c, es, S0⟩ => ?_)
    · subst es
      have hS0 := Same.seq S0 hS
      with_reducible refine Rd.name (Rd.seq (Rd.asg (Rd.call (Rd.cons (Rd.var (by walk_at "vr") (Rd.cons (Rd.var (by walk_at "vr") (Rd.nil ?_))))))))
      refine ⟨_, _, _, rfl, (by walk_at "hpl"), (by walk_at "sc"), (by walk_at "sc"), fun src1 o1 src1n s1 => ?_⟩
      with_reducible refine Rd.name ?_
      try dsimp only [Int.reduceToNat, List.set]
      with_reducible refine Rd.seq (Rd.asg (Rd.call (Rd.cons (Rd.var (by walk_at "vr") (Rd.cons (Rd.c (Rd.nil ?_)))))))
      refine ⟨_, _, _, rfl, (by walk_at "hp"), (by walk_at "sc"), (by walk_at "sc"), (by walk_at "sc"), fun v2 t2 o2 H2 F2 r2 so2 ip2 wf2 wd2 => ?_⟩
      obtain ⟨pp, vt, vf, rfl, hpp, htt, hff⟩ := ip2
      with_reducible refine Rd.name ?_
      try dsimp only [Int.reduceToNat, List.set]
      with_reducible refine Rd.seq (Rd.asg (Rd.op (Rd.c (Rd.call (Rd.cons (Rd.var (by walk_at "vr") (Rd.cons (Rd.c (Rd.nil ?_)))))))))
      refine ⟨_, _, _, rfl, (by walk_at "hp"), (by walk_at "sc"), (by walk_at "sc"), (by walk_at "sc"), fun d3 o3 d3a d3b s3 => ?_⟩
      with_reducible refine Rd.i0 (Rd.name ?_)
      try dsimp only [Int.reduceToNat, List.set]
      obtain ⟨xs2, ys2, rfl, so2b⟩ := so2
      have kp : ∀ p xs, H2 p = some (.tup xs) → (upd H2 src1 o3) p = some (.tup xs) := fun p xs h => by have n1 : p ≠ src1 := L2.ne_of h r2 (by intro z; cases z); walk_at "hp"
      refine Rd.comp (fun Hx => Same H Hx ∧ Hx pp = some (.tup [vt, .str t2.slot, .str t2.empty, vf, .str t2.wen]) ∧ IsTurn Hx vt t2.wrap ∧ IsFill Hx vf t2.full) ⟨by walk_at "frm", kp _ _ hpp, htt.keep kp, hff.keep kp⟩ (fun Hy ⟨Sy, hy, hty, hfy⟩ => ?_)
      have mle := modV60 wf2.w wd2 (n := 1 + d3) (by omega) (by omega)
      with_reducible refine Rd.seq (Rd.asg (Rd.call (Rd.cons (Rd.op (Rd.var (by walk_at "vr") (Rd.c (Rd.ixT (by walk_at "hpt") (by walk_at "vr") (Rd.cons (Rd.var (by walk_at "vr") (Rd.nil ?_))))))))))
      refine ⟨_, _, _, rfl, hty, wf2.w, (by walk_at "sc"), (by walk_at "sc"), ?_⟩
      with_reducible refine Rd.name ?_
      try dsimp only [Int.reduceToNat, List.set]
      with_reducible refine Rd.ifS (Rd.test (Rd.op (Rd.var (by walk_at "vr") (Rd.c (Rd.i0 (Rd.bl ?_))))))
      refine Rd.ite (fun h0 => ?_) (fun h0 => ?_)
      · try simp only [decide_eq_true_eq, Bool.not_eq_true', decide_eq_false_iff_not, Bool.not_eq_true, Bool.not_eq_eq_eq_not, Bool.not_true, Bool.not_false] at h0
        with_reducible refine Rd.seq (Rd.asg (Rd.call (Rd.cons (Rd.var (by walk_at "vr") (Rd.nil ?_)))))
        refine ⟨_, _, rfl, ⟨_, _, _, rfl, hy, hty, hfy⟩, wf2, fun p5 H5 S5 np5 i5 => ?_⟩
        have hy5 := S5 _ _ hy
        with_reducible refine Rd.name ?_
        try dsimp only [Int.reduceToNat, List.set]
        rcases Decidable.em (Out t2.slot (1 + d3) (modV t2.wrap (1 + d3))) with o | o
        · have mO := o.2
          with_reducible refine Rd.seq (Rd.asg (Rd.lc (Rd.rng1 (Rd.cons (Rd.var (by walk_at "vr") (Rd.nil (⟨_, rfl, (by walk_at "sc"), (by walk_at "sc"), ?_⟩)))))))
          intro D0 nD0
          refine' lc_range (lo := 0) (fun i H' => Same H5 H' ∧ H' D0 = some (.lst (SL t2.slot (1 + d3) i))) (⟨by walk_at "frm", L2.upd_same⟩) (fun i H' hi p => ?lct0_u22) (fun H' p => ?lcd0_u22)
          case lct0_u22 =>
            obtain ⟨S9, hD⟩ := p
            have hy9 := S9 _ _ hy5
            have ls9 := SL_len t2.slot (1 + d3) i
            have al9 : (SL t2.slot (1 + d3) i).length ≤ 900 := by omega
            with_reducible refine Rd.name ?_
            refine ⟨rfl, ?_⟩
            refine Rd.yes (Rd.iteT rfl ?_)
            with_reducible refine Rd.call (Rd.cons (Rd.op (Rd.var (by walk_at "vr") (Rd.c (Rd.ixT (by walk_at "hpt") (by walk_at "vr") (Rd.cons (Rd.var (by walk_at "vr") (Rd.cons (Rd.var (by walk_at "vr") (Rd.nil ?_))))))))))
            refine ⟨_, _, _, rfl, wf2.s, (by walk_at "sc"), (by walk_at "sc"), ?_⟩
            refine ⟨_, (by walk_at "hp"), (by walk_at "sz"), ?_⟩
            refine ⟨by walk_at "frm", ?_⟩
            rw [SL_succ]
            exact L2.upd_same
          obtain ⟨S9, hD9⟩ := p
          have i9 := i5.same S9
          with_reducible refine Rd.name ?_
          try dsimp only [Int.reduceToNat, List.set]
          with_reducible refine Rd.seq (Rd.par (Rd.cons (Rd.call (Rd.cons (Rd.var (by walk_at "vr") (Rd.cons (Rd.var (by walk_at "vr") (Rd.nil ?_))))))))
          refine ⟨_, _, _, rfl, (by assumption), (by assumption), (by walk_at "sc"), (by walk_at "sc"), (by walk_at "sc"), .inl ⟨o, ?_⟩⟩
          with_reducible refine Rd.cons (Rd.call (Rd.cons (Rd.var (by walk_at "vr") (Rd.cons (Rd.var (by walk_at "vr") (Rd.nil ?_))))))
          refine ⟨_, _, _, rfl, (by assumption), (by assumption), (by walk_at "sc"), (by walk_at "sc"), (by walk_at "sc"), .inl ⟨o, fun H8 S8 => ?_⟩⟩
          with_reducible refine Rd.nil (⟨_, _, rfl, (Rd.seq (Rd.ifS (Rd.tb (Rd.cB (Rd.cons (Rd.var (by walk_at "vr") (Rd.cons (Rd.c (Rd.nil ?_)))))))))⟩)
          refine ⟨_, _, _, _, _, rfl, (by walk_at "clsv"), (by walk_at "tyx"), (by walk_at "kit"), ?_⟩
          with_reducible refine Rd.bl (Rd.iteF (by first | with_unfolding_all rfl | walk_at "bF") (Rd.next (Rd.ifS (Rd.test (Rd.op (Rd.c (Rd.var (by walk_at "vr") ?_)))))))
          have yes9 := none_yes (k := t2.slot) (c := 2 * (1 + d3)) (by omega) mO (out_none (by omega) o)
          refine Rd.inT (.inl (by walk_at "hpl")) rfl (SL_flat _ _ _) ?_
          with_reducible refine Rd.bl (Rd.iteT (by walk_at "bT") (Rd.ifS (Rd.or (Rd.test (Rd.op (Rd.var (by walk_at "vr") (Rd.c (Rd.neS (by walk_at "vr") (Rd.bl (Rd.iteF (by walk_at "bF") (Rd.test ?_)))))))))))
          with_reducible refine Rd.op (Rd.var (by walk_at "vr") (Rd.c (⟨rfl, (Rd.bl (Rd.iteF (by first | with_unfolding_all rfl | walk_at "bF") (Rd.next ?_)))⟩)))
          exact ⟨_, _, _, _, _, _, _, _, _, _, _, _, rfl, (by walk_at "frm")⟩
        · obtain ⟨fi, le⟩ := firsts_ok wf2 (by omega) (by omega) o
          have hI9 : Ints t2.slot (1 + d3) (modV t2.wrap (1 + d3)) := ints_of (fun c c0 cM => slot_in wf2.s o cM)
          with_reducible refine Rd.seq (Rd.asg (Rd.lc (Rd.rng1 (Rd.cons (Rd.var (by walk_at "vr") (Rd.nil (⟨_, rfl, (by walk_at "sc"), (by walk_at "sc"), ?_⟩)))))))
          intro D0 nD0
          refine' lc_range (lo := 0) (fun i H' => Same H5 H' ∧ H' D0 = some (.lst (SL t2.slot (1 + d3) i))) (⟨by walk_at "frm", L2.upd_same⟩) (fun i H' hi p => ?lct0_u23) (fun H' p => ?lcd0_u23)
          case lct0_u23 =>
            obtain ⟨S9, hD⟩ := p
            have hy9 := S9 _ _ hy5
            have ls9 := SL_len t2.slot (1 + d3) i
            have al9 : (SL t2.slot (1 + d3) i).length ≤ 900 := by omega
            with_reducible refine Rd.name ?_
            refine ⟨rfl, ?_⟩
            refine Rd.yes (Rd.iteT rfl ?_)
            with_reducible refine Rd.call (Rd.cons (Rd.op (Rd.var (by walk_at "vr") (Rd.c (Rd.ixT (by walk_at "hpt") (by walk_at "vr") (Rd.cons (Rd.var (by walk_at "vr") (Rd.cons (Rd.var (by walk_at "vr") (Rd.nil ?_))))))))))
            refine ⟨_, _, _, rfl, wf2.s, (by walk_at "sc"), (by walk_at "sc"), ?_⟩
            refine ⟨_, (by walk_at "hp"), (by walk_at "sz"), ?_⟩
            refine ⟨by walk_at "frm", ?_⟩
            rw [SL_succ]
            exact L2.upd_same
          obtain ⟨S9, hD9⟩ := p
          have i9 := i5.same S9
          with_reducible refine Rd.name ?_
          try dsimp only [Int.reduceToNat, List.set]
          with_reducible refine Rd.seq (Rd.par (Rd.cons (Rd.call (Rd.cons (Rd.var (by walk_at "vr") (Rd.cons (Rd.var (by walk_at "vr") (Rd.nil ?_))))))))
          refine ⟨_, _, _, rfl, (by assumption), (by assumption), (by walk_at "sc"), (by walk_at "sc"), (by walk_at "sc"), .inr ⟨o, ?_⟩⟩
          with_reducible refine Rd.cons (Rd.call (Rd.cons (Rd.var (by walk_at "vr") (Rd.cons (Rd.var (by walk_at "vr") (Rd.nil ?_))))))
          refine ⟨_, _, _, rfl, (by assumption), (by assumption), (by walk_at "sc"), (by walk_at "sc"), (by walk_at "sc"), .inr ⟨o, fun q11 c11 g11 H11 S11 hq11 ex11 al11 lo11 => ?_⟩⟩
          obtain ⟨x2, hx2, rfl, rfl⟩ := ex11
          obtain ⟨f1, f2, f3⟩ := fi.a x2 hx2
          have eg : x2.2 = winV t2.slot (1 + d3) (modV t2.wrap (1 + d3)) := Int.le_antisymm (by obtain ⟨y, hy9, ey⟩ := le.a; rw [← ey]; exact al11 y hy9) (le.b x2 hx2)
          rw [← eg]
          have gl1 := f3.1
          have gl2 := f3.2.1
          obtain ⟨G9, hG9⟩ := gap_fun (k := t2.slot) (n := (1 + d3)) (M := (modV t2.wrap (1 + d3))) (fun c a b => by obtain ⟨y, _, _, iy⟩ := fi.b c a b; exact ⟨_, iy⟩)
          have lo9 : ∀ c, 0 ≤ c → c < (modV t2.wrap (1 + d3)) → x2.2 ≤ G9 c := fun c a b => by obtain ⟨y, hy9, _, iy⟩ := fi.b c a b; rw [(hG9 c a b).one iy]; exact al11 y hy9
          have at9 : G9 x2.1 = x2.2 := (hG9 _ f1 f2).one f3
          have ah9 : ∀ d, 0 ≤ d → d < x2.1 → G9 d ≠ x2.2 := fun d a b e => by obtain ⟨y, hy9, ly, iy⟩ := fi.b d a (by omega); have := lo11 y hy9 ((iy.one (hG9 d a (by omega))).trans e); omega
          have hsl8 : H11 D0 = some (.lst (SL t2.slot (1 + d3) ((modV t2.wrap (1 + d3))).toNat)) := S11 _ _ hD9
          with_reducible refine Rd.nil (⟨_, _, rfl, (Rd.seq (Rd.ifS (Rd.tb (Rd.cB (Rd.cons (Rd.var (by walk_at "vr") (Rd.cons (Rd.c (Rd.nil ?_)))))))))⟩)
          refine ⟨_, _, _, _, _, rfl, (by walk_at "clsv"), (by walk_at "tyx"), (by walk_at "kit"), ?_⟩
          with_reducible refine Rd.bl (Rd.iteF (by first | with_unfolding_all rfl | walk_at "bF") (Rd.next (Rd.ifS (Rd.test (Rd.op (Rd.c (Rd.var (by walk_at "vr") ?_)))))))
          have no9 := none_no hI9
          refine Rd.inT (.inl (by walk_at "hpl")) rfl (SL_flat _ _ _) ?_
          with_reducible refine Rd.bl (Rd.iteF (by walk_at "bF") (Rd.seq (Rd.asg (Rd.lc (Rd.rng1 (Rd.cons (Rd.var (by walk_at "vr") (Rd.nil (⟨_, rfl, (by walk_at "sc"), (by walk_at "sc"), ?_⟩)))))))))
          intro D2 nD2
          refine' lc_range (lo := 0) (fun i H' => Same H11 H' ∧ H' D2 = some (.lst ((GL G9 i).map V.int))) (⟨by walk_at "frm", L2.upd_same⟩) (fun i H' hi p => ?lct2_u24) (fun H' p => ?lcd2_u24)
          case lct2_u24 =>
            obtain ⟨Sg, hDg⟩ := p
            have hs9 := Sg _ _ hsl8
            have lg9 := GL_len G9 i
            have al9 : ((GL G9 i).map V.int).length ≤ 900 := by rw [List.length_map]; omega
            with_reducible refine Rd.name ?_
            refine ⟨rfl, ?_⟩
            refine Rd.yes (Rd.iteT rfl ?_)
            with_reducible refine Rd.call (Rd.cons (Rd.var (by walk_at "vr") (Rd.cons (Rd.var (by walk_at "vr") (Rd.nil ?_)))))
            refine ⟨_, _, _, _, _, rfl, .of hs9, (by omega), (by omega), (by walk_at "sc"), (by walk_at "sc"), hI9, fun g ig => ?_⟩
            obtain rfl := ig.one (hG9 (0 + (i : Int)) (by omega) (by omega))
            refine ⟨_, (by walk_at "hp"), (by walk_at "sz"), ?_⟩
            refine ⟨by walk_at "frm", ?_⟩
            rw [GL_succ, List.map_append]
            exact L2.upd_same
          obtain ⟨Sh, hDh⟩ := p
          with_reducible refine Rd.name ?_
          try dsimp only [Int.reduceToNat, List.set]
          with_reducible refine Rd.seq (Rd.asg (Rd.op (Rd.srtK (Rd.cons (Rd.var (by walk_at "vr") (Rd.nil (Rd.cons (Rd.c (Rd.nil ?_)))))))))
          refine ⟨_, _, rfl, rfl, .of hDh, (by rw [GL_len]; omega), fun so1 so1p so1m so1o so1n => ?_⟩
          obtain ⟨r9, e9⟩ := sorted_least (W := x2.2) so1m so1o (GL_mem.mpr ⟨x2.1, f1, f2, at9⟩) (fun x hx => by obtain ⟨c, c0, cM, rfl⟩ := GL_mem.mp hx; exact lo9 c c0 cM)
          subst e9
          with_reducible refine Rd.c ?_
          refine Rd.ixL (v := .int x2.2) (by walk_at "hpl") (show atI _ ((0 : Nat) : Int) = _ from atI_nat rfl) ?_
          with_reducible refine Rd.name ?_
          try dsimp only [Int.reduceToNat, List.set]
          with_reducible refine Rd.seq (Rd.ifS (Rd.or (Rd.not (Rd.tb (Rd.cB (Rd.cons (Rd.var (by walk_at "vr") (Rd.cons (Rd.c (Rd.nil ?_))))))))))
          refine ⟨_, _, _, _, _, rfl, (by walk_at "clsv"), (by walk_at "tyx"), (by walk_at "kit"), ?_⟩
          with_reducible refine Rd.bl (Rd.iteF (by first | with_unfolding_all rfl | walk_at "bF") (Rd.test (Rd.op (Rd.var (by walk_at "vr") (Rd.tup (Rd.cons ?_))))))
          try unfold tBM
          with_reducible refine Rd.var (by walk_at "vr") ?_
          refine ⟨Or.inl ⟨rfl, _, (by walk_at "hpl")⟩, ?_⟩
          with_reducible refine Rd.cons (Rd.var (by walk_at "vr") (Rd.nil ?_))
          refine ⟨_, _, _, x2.1.toNat, _, rfl, rfl, .of (by walk_at "hp"), rfl, ints_flat _, GL_at f1 f2, (by rw [at9]; simp [eqV]), (fun m z hm e => GL_ahead f2 ah9 m z hm e), ?_⟩
          rw [Int.toNat_of_nonneg f1]
          with_reducible refine Rd.cons (Rd.var (by walk_at "vr") (Rd.nil (Rd.laid (by walk_at "ll") ?_)))
          intro p3 np3
          refine ⟨_, _, (by walk_at "dpt"), (by walk_at "dpt"), (by walk_at "shp"), (by walk_at "shp"), ?_⟩
          with_reducible refine Rd.bl (Rd.iteF (by walk_at "bF") (Rd.next (Rd.seq (Rd.ifS (Rd.test (Rd.op (Rd.var (by walk_at "vr") (Rd.var (by walk_at "vr") (Rd.neS (by walk_at "vr") (Rd.bl (Rd.iteF (by walk_at "bF") ?_)))))))))))
          with_reducible refine Rd.next (Rd.seq (Rd.ifS (Rd.not (Rd.tb (Rd.call (Rd.cons (Rd.var (by walk_at "vr") (Rd.cons (Rd.var (by walk_at "vr") (Rd.nil ?_))))))))))
          refine ⟨_, _, _, _, _, rfl, .of (by walk_at "hp"), (by omega), (by omega), (by omega), (by omega), hI9, .inl ⟨alls_ok (by omega) hI9 (fun c a b => ⟨_, hG9 c a b, lo9 c a b⟩), fun H13 S13 => ?_⟩⟩
          with_reducible refine Rd.bl (Rd.iteF (by walk_at "bF") (Rd.next (Rd.ifS (Rd.and (Rd.test (Rd.op (Rd.var (by walk_at "vr") (Rd.var (by walk_at "vr") (Rd.i0 (Rd.bl ?_))))))))))
          refine Rd.ite (fun h7 => ?_) (fun h7 => ?_)
          · try simp only [decide_eq_true_eq, Bool.not_eq_true', decide_eq_false_iff_not, Bool.not_eq_true, Bool.not_eq_eq_eq_not, Bool.not_true, Bool.not_false] at h7
            with_reducible refine Rd.tb (Rd.call (Rd.cons (Rd.var (by walk_at "vr") (Rd.cons (Rd.op (Rd.var (by walk_at "vr") (Rd.c (Rd.i0 (Rd.nil ?_)))))))))
            refine ⟨_, _, _, _, _, rfl, .of (by walk_at "hp"), (by omega), (by omega), (by omega), (by omega), hI9, .inr ⟨alls_no f1 f2 f3, fun H14 S14 => ?_⟩⟩
            with_reducible refine Rd.bl (Rd.iteF (by walk_at "bF") (Rd.next ?_))
            exact ⟨_, _, _, _, _, _, _, _, _, _, _, _, rfl, (by walk_at "frm")⟩
          · try simp only [decide_eq_true_eq, Bool.not_eq_true', decide_eq_false_iff_not, Bool.not_eq_true, Bool.not_eq_eq_eq_not, Bool.not_true, Bool.not_false, Int.not_lt, Int.not_le, Decidable.not_not] at h7
            with_reducible refine Rd.iteF rfl (Rd.next ?_)
            exact ⟨_, _, _, _, _, _, _, _, _, _, _, _, rfl, (by walk_at "frm")⟩
      · try simp only [decide_eq_true_eq, Bool.not_eq_true', decide_eq_false_iff_not, Bool.not_eq_true, Bool.not_eq_eq_eq_not, Bool.not_true, Bool.not_false, Int.not_lt, Int.not_le, Decidable.not_not] at h0
        with_reducible refine Rd.next ?_
        exact ⟨_, _, _, _, _, _, _, _, _, _, _, _, rfl, (by walk_at "frm")⟩
    · subst es
      with_reducible refine Rd.ret (Rd.c ?_)
      exact k _
end
theorem all_mk {l : PySem.W.OpenLaw} {w : World} {K : PySem.W.Frag} {h : Heap} {mg : Str → Option Value} {fa f_has_outside f_mask_of f_steps_to_bits f_mask_gaps f_off_spans f_rest_spans f_steps_to_span f_gaps_from f_lowest_bit f_is_whole f_is_whole_from f_is_word_of f_lesser f_is_size f_check_size f_Formu__initu_ f_form_at f_Scheme_wrap f_wrap_at f_modulus_of f_Scheme_slot f_window_at f_window_of f_alike_of f_is_small_form f_is_full f_is_wrap f_is_part f_first_wrong f_Schemeu__initu_ f_l_source f_l_draw f_l_pick f_l_limit f_l_parts f_l_wrap f_l_rule f_l_scheme f_l_modulus f_l_slot f_l_gap f_l_unlike f_law c_Form c_Scheme p_Scheme_wrap p_Scheme_slot : Addr} (X : K.In h) (G : h.Ns mainGlobals mg) (hfa : mg "law" = some (.ref fa))
    {fd_has_outside : FuncData}
    {fd_mask_of : FuncData}
    {fd_steps_to_bits : FuncData}
    {fd_mask_gaps : FuncData}
    {fd_off_spans : FuncData}
    {fd_rest_spans : FuncData}
    {fd_steps_to_span : FuncData}
    {fd_gaps_from : FuncData}
    {fd_lowest_bit : FuncData}
    {fd_is_whole : FuncData}
    {fd_is_whole_from : FuncData}
    {fd_is_word_of : FuncData}
    {fd_lesser : FuncData}
    {fd_is_size : FuncData}
    {fd_check_size : FuncData}
    {fd_Formu__initu_ : FuncData}
    {fd_form_at : FuncData}
    {fd_Scheme_wrap : FuncData}
    {fd_wrap_at : FuncData}
    {fd_modulus_of : FuncData}
    {fd_Scheme_slot : FuncData}
    {fd_window_at : FuncData}
    {fd_window_of : FuncData}
    {fd_alike_of : FuncData}
    {fd_is_small_form : FuncData}
    {fd_is_full : FuncData}
    {fd_is_wrap : FuncData}
    {fd_is_part : FuncData}
    {fd_first_wrong : FuncData}
    {fd_Schemeu__initu_ : FuncData}
    {fd_l_source : FuncData}
    {fd_l_draw : FuncData}
    {fd_l_pick : FuncData}
    {fd_l_limit : FuncData}
    {fd_l_parts : FuncData}
    {fd_l_wrap : FuncData}
    {fd_l_rule : FuncData}
    {fd_l_scheme : FuncData}
    {fd_l_modulus : FuncData}
    {fd_l_slot : FuncData}
    {fd_l_gap : FuncData}
    {fd_l_unlike : FuncData}
    {fd_law : FuncData}
    {t_GREATEST_SIZE : Tok}
    {t_PART_NAMES : Addr}
    {t_PART_WORDS : Addr}
    {t_PART_WORDS_slot : Addr}
    {t_PART_WORDS_empty : Addr}
    {t_PART_WORDS_when : Addr}
    {t_MEASURES : Addr}
    {t_SIGNS : Addr}
    {t_PLAIN_FULLS : Addr}
    {t_GREATEST_SLOPE : Tok}
    {t_GREATEST_BASE : Tok}
    {t_GREATEST_WIDTH : Tok}
    {es_PART_WORDS : Array DictEntry}
    {nd_PART_WORDS : Nat}
    {rs_Scheme_wrap : List Value}
    {rs_Scheme_slot : List Value}
    (h_n_abs : PySem.W.nsIn K mainGlobals "abs" = some none)
    (h_n_bool : PySem.W.nsIn K mainGlobals "bool" = some none)
    (h_n_int : PySem.W.nsIn K mainGlobals "int" = some none)
    (h_n_isinstance : PySem.W.nsIn K mainGlobals "isinstance" = some none)
    (h_n_len : PySem.W.nsIn K mainGlobals "len" = some none)
    (h_n_max : PySem.W.nsIn K mainGlobals "max" = some none)
    (h_n_min : PySem.W.nsIn K mainGlobals "min" = some none)
    (h_n_range : PySem.W.nsIn K mainGlobals "range" = some none)
    (h_n_set : PySem.W.nsIn K mainGlobals "set" = some none)
    (h_n_sorted : PySem.W.nsIn K mainGlobals "sorted" = some none)
    (h_n_str : PySem.W.nsIn K mainGlobals "str" = some none)
    (h_n_tuple : PySem.W.nsIn K mainGlobals "tuple" = some none)
    (h_m_GREATEST_SIZE : PySem.W.nsIn K mainGlobals "GREATEST_SIZE" = some (some (.int (1000000000000000000000000000000) t_GREATEST_SIZE)))
    (h_m_PART_NAMES : PySem.W.nsIn K mainGlobals "PART_NAMES" = some (some (.ref t_PART_NAMES)))
    (h_m_PART_WORDS : PySem.W.nsIn K mainGlobals "PART_WORDS" = some (some (.ref t_PART_WORDS)))
    (h_m_MEASURES : PySem.W.nsIn K mainGlobals "MEASURES" = some (some (.ref t_MEASURES)))
    (h_m_SIGNS : PySem.W.nsIn K mainGlobals "SIGNS" = some (some (.ref t_SIGNS)))
    (h_m_PLAIN_FULLS : PySem.W.nsIn K mainGlobals "PLAIN_FULLS" = some (some (.ref t_PLAIN_FULLS)))
    (h_m_GREATEST_SLOPE : PySem.W.nsIn K mainGlobals "GREATEST_SLOPE" = some (some (.int (4) t_GREATEST_SLOPE)))
    (h_m_GREATEST_BASE : PySem.W.nsIn K mainGlobals "GREATEST_BASE" = some (some (.int (20) t_GREATEST_BASE)))
    (h_m_GREATEST_WIDTH : PySem.W.nsIn K mainGlobals "GREATEST_WIDTH" = some (some (.int (100) t_GREATEST_WIDTH)))
    (h_m_Form : PySem.W.nsIn K mainGlobals "Form" = some (some (.ref c_Form)))
    (h_n_Form_slope : PySem.W.findIn K (.ref c_Form) "slope" = some none)
    (h_n_Form_base : PySem.W.findIn K (.ref c_Form) "base" = some none)
    (h_m_Scheme : PySem.W.nsIn K mainGlobals "Scheme" = some (some (.ref c_Scheme)))
    (h_n_Scheme_parts : PySem.W.findIn K (.ref c_Scheme) "_parts" = some none)
    (h_m_has_outside : PySem.W.nsIn K mainGlobals "has_outside" = some (some (.ref f_has_outside)))
    (h_m_mask_of : PySem.W.nsIn K mainGlobals "mask_of" = some (some (.ref f_mask_of)))
    (h_m_steps_to_bits : PySem.W.nsIn K mainGlobals "steps_to_bits" = some (some (.ref f_steps_to_bits)))
    (h_m_mask_gaps : PySem.W.nsIn K mainGlobals "mask_gaps" = some (some (.ref f_mask_gaps)))
    (h_m_off_spans : PySem.W.nsIn K mainGlobals "off_spans" = some (some (.ref f_off_spans)))
    (h_m_rest_spans : PySem.W.nsIn K mainGlobals "rest_spans" = some (some (.ref f_rest_spans)))
    (h_m_steps_to_span : PySem.W.nsIn K mainGlobals "steps_to_span" = some (some (.ref f_steps_to_span)))
    (h_m_gaps_from : PySem.W.nsIn K mainGlobals "gaps_from" = some (some (.ref f_gaps_from)))
    (h_m_lowest_bit : PySem.W.nsIn K mainGlobals "lowest_bit" = some (some (.ref f_lowest_bit)))
    (h_m_is_whole : PySem.W.nsIn K mainGlobals "is_whole" = some (some (.ref f_is_whole)))
    (h_m_is_whole_from : PySem.W.nsIn K mainGlobals "is_whole_from" = some (some (.ref f_is_whole_from)))
    (h_m_is_word_of : PySem.W.nsIn K mainGlobals "is_word_of" = some (some (.ref f_is_word_of)))
    (h_m_lesser : PySem.W.nsIn K mainGlobals "lesser" = some (some (.ref f_lesser)))
    (h_m_is_size : PySem.W.nsIn K mainGlobals "is_size" = some (some (.ref f_is_size)))
    (h_m_check_size : PySem.W.nsIn K mainGlobals "check_size" = some (some (.ref f_check_size)))
    (h_m_form_at : PySem.W.nsIn K mainGlobals "form_at" = some (some (.ref f_form_at)))
    (h_m_wrap_at : PySem.W.nsIn K mainGlobals "wrap_at" = some (some (.ref f_wrap_at)))
    (h_m_modulus_of : PySem.W.nsIn K mainGlobals "modulus_of" = some (some (.ref f_modulus_of)))
    (h_m_window_at : PySem.W.nsIn K mainGlobals "window_at" = some (some (.ref f_window_at)))
    (h_m_window_of : PySem.W.nsIn K mainGlobals "window_of" = some (some (.ref f_window_of)))
    (h_m_alike_of : PySem.W.nsIn K mainGlobals "alike_of" = some (some (.ref f_alike_of)))
    (h_m_is_small_form : PySem.W.nsIn K mainGlobals "is_small_form" = some (some (.ref f_is_small_form)))
    (h_m_is_full : PySem.W.nsIn K mainGlobals "is_full" = some (some (.ref f_is_full)))
    (h_m_is_wrap : PySem.W.nsIn K mainGlobals "is_wrap" = some (some (.ref f_is_wrap)))
    (h_m_is_part : PySem.W.nsIn K mainGlobals "is_part" = some (some (.ref f_is_part)))
    (h_m_first_wrong : PySem.W.nsIn K mainGlobals "first_wrong" = some (some (.ref f_first_wrong)))
    (h_m_l_source : PySem.W.nsIn K mainGlobals "_law_source" = some (some (.ref f_l_source)))
    (h_m_l_draw : PySem.W.nsIn K mainGlobals "_law_draw" = some (some (.ref f_l_draw)))
    (h_m_l_pick : PySem.W.nsIn K mainGlobals "_law_pick" = some (some (.ref f_l_pick)))
    (h_m_l_limit : PySem.W.nsIn K mainGlobals "_law_limit" = some (some (.ref f_l_limit)))
    (h_m_l_parts : PySem.W.nsIn K mainGlobals "_law_parts" = some (some (.ref f_l_parts)))
    (h_m_l_wrap : PySem.W.nsIn K mainGlobals "_law_wrap" = some (some (.ref f_l_wrap)))
    (h_m_l_rule : PySem.W.nsIn K mainGlobals "_law_rule" = some (some (.ref f_l_rule)))
    (h_m_l_scheme : PySem.W.nsIn K mainGlobals "_law_scheme" = some (some (.ref f_l_scheme)))
    (h_m_l_modulus : PySem.W.nsIn K mainGlobals "_law_modulus" = some (some (.ref f_l_modulus)))
    (h_m_l_slot : PySem.W.nsIn K mainGlobals "_law_slot" = some (some (.ref f_l_slot)))
    (h_m_l_gap : PySem.W.nsIn K mainGlobals "_law_gap" = some (some (.ref f_l_gap)))
    (h_m_l_unlike : PySem.W.nsIn K mainGlobals "_law_unlike" = some (some (.ref f_l_unlike)))
    (h_m_law : PySem.W.nsIn K mainGlobals "law" = some (some (.ref f_law)))
    (h_in_Form : PySem.W.findIn K (.ref c_Form) "__init__" = some (some (.ref f_Formu__initu_)))
    (h_in_Scheme : PySem.W.findIn K (.ref c_Scheme) "__init__" = some (some (.ref f_Schemeu__initu_)))
    (h_a1_Scheme_wrap : PySem.W.findIn K (.ref c_Scheme) "wrap" = some (some (.ref p_Scheme_wrap)))
    (h_a1_Scheme_slot : PySem.W.findIn K (.ref c_Scheme) "slot" = some (some (.ref p_Scheme_slot)))
    (h_ns_PART_WORDS_slot : PySem.W.nsIn K t_PART_WORDS "slot" = some (some (.ref t_PART_WORDS_slot)))
    (h_ns_PART_WORDS_empty : PySem.W.nsIn K t_PART_WORDS "empty" = some (some (.ref t_PART_WORDS_empty)))
    (h_ns_PART_WORDS_when : PySem.W.nsIn K t_PART_WORDS "when" = some (some (.ref t_PART_WORDS_when)))
    (h_a2_Scheme_wrap : PySem.W.recIn K p_Scheme_wrap "property" = some (.ref f_Scheme_wrap :: rs_Scheme_wrap))
    (h_a2_Scheme_slot : PySem.W.recIn K p_Scheme_slot "property" = some (.ref f_Scheme_slot :: rs_Scheme_slot))
    (h_lD_PART_WORDS : K.lookup t_PART_WORDS = some ⟨.type "dict", none, .dict es_PART_WORDS nd_PART_WORDS, #[]⟩)
    (h_tq_PART_NAMES : Hd.tupB K t_PART_NAMES [.str "wrap", .str "slot", .str "empty", .str "full", .str "when"] = true)
    (h_tq_PART_WORDS_slot : Hd.tupB K t_PART_WORDS_slot [.str "rest", .str "off", .str "mask"] = true)
    (h_zk_PART_WORDS : PySem.W.KeysLit w.params es_PART_WORDS.toList)
    (h_tq_PART_WORDS_empty : Hd.tupB K t_PART_WORDS_empty [.str "same", .str "count", .str "note"] = true)
    (h_tq_PART_WORDS_when : Hd.tupB K t_PART_WORDS_when [.str "refuse", .str "drop", .str "over"] = true)
    (h_tq_MEASURES : Hd.tupB K t_MEASURES [.str "diff", .str "count"] = true)
    (h_tq_SIGNS : Hd.tupB K t_SIGNS [.str "=", .str ">="] = true)
    (h_tq_PLAIN_FULLS : Hd.tupB K t_PLAIN_FULLS [.str "next", .str "note"] = true)
    (h_pg_Form : PySem.W.plainGet K c_Form Str.empty = true)
    (h_hd_Form : PySem.W.hasDictIn K c_Form = true)
    (h_po_Form : PySem.W.plainOver K c_Form = true)
    (h_sa_Form : PySem.W.findIn K (.ref c_Form) "__setattr__" = some (some (.builtin "object.__setattr__")))
    (h_mk_Form : PySem.W.makesIn K c_Form = true)
    (h_ii_Form : PySem.W.isFn K (.ref f_Formu__initu_) = true)
    (h_kp_Form : PySem.W.keepIn K (.ref c_Form) = true)
    (h_ha_Form : PySem.W.findIn K (.ref c_Form) "__class__" = some (some (.builtin "object.__class__")))
    (h_mo_Form : PySem.W.mroIn K c_Form (.type "object") = some true)
    (h_hn_Form : PySem.W.specialIn K (.builtin "object.__class__") "__get__" = some (some (.builtin "getset_descriptor.__get__")))
    (h_htk_Form : PySem.W.takesIn K (.builtin "object.__class__") = some true)
    (h_kt_Form_Form : PySem.W.kitOne K (.ref c_Form) (.ref c_Form) = some true)
    (h_kt_int_Form : PySem.W.kitOne K (.type "int") (.ref c_Form) = some false)
    (h_pg_Scheme : PySem.W.plainGet K c_Scheme Str.empty = true)
    (h_hd_Scheme : PySem.W.hasDictIn K c_Scheme = true)
    (h_po_Scheme : PySem.W.plainOver K c_Scheme = true)
    (h_sa_Scheme : PySem.W.findIn K (.ref c_Scheme) "__setattr__" = some (some (.builtin "object.__setattr__")))
    (h_mk_Scheme : PySem.W.makesIn K c_Scheme = true)
    (h_ii_Scheme : PySem.W.isFn K (.ref f_Schemeu__initu_) = true)
    (h_kp_Scheme : PySem.W.keepIn K (.ref c_Scheme) = true)
    (h_F_has_outside : FunD K "has_outside" "has_outside" (defArgs s_has_outside) (defBody s_has_outside) (defScope s_has_outside) [] [] f_has_outside fd_has_outside)
    (h_F_mask_of : FunD K "mask_of" "mask_of" (defArgs s_mask_of) (defBody s_mask_of) (defScope s_mask_of) [] [] f_mask_of fd_mask_of)
    (h_F_steps_to_bits : FunD K "steps_to_bits" "steps_to_bits" (defArgs s_steps_to_bits) (defBody s_steps_to_bits) (defScope s_steps_to_bits) [] [] f_steps_to_bits fd_steps_to_bits)
    (h_F_mask_gaps : FunD K "mask_gaps" "mask_gaps" (defArgs s_mask_gaps) (defBody s_mask_gaps) (defScope s_mask_gaps) [] [] f_mask_gaps fd_mask_gaps)
    (h_F_off_spans : FunD K "off_spans" "off_spans" (defArgs s_off_spans) (defBody s_off_spans) (defScope s_off_spans) [] [] f_off_spans fd_off_spans)
    (h_F_rest_spans : FunD K "rest_spans" "rest_spans" (defArgs s_rest_spans) (defBody s_rest_spans) (defScope s_rest_spans) [] [] f_rest_spans fd_rest_spans)
    (h_F_steps_to_span : FunD K "steps_to_span" "steps_to_span" (defArgs s_steps_to_span) (defBody s_steps_to_span) (defScope s_steps_to_span) [] [] f_steps_to_span fd_steps_to_span)
    (h_F_gaps_from : FunD K "gaps_from" "gaps_from" (defArgs s_gaps_from) (defBody s_gaps_from) (defScope s_gaps_from) [] [] f_gaps_from fd_gaps_from)
    (h_F_lowest_bit : FunD K "lowest_bit" "lowest_bit" (defArgs s_lowest_bit) (defBody s_lowest_bit) (defScope s_lowest_bit) [] [] f_lowest_bit fd_lowest_bit)
    (h_F_is_whole : FunD K "is_whole" "is_whole" (defArgs s_is_whole) (defBody s_is_whole) (defScope s_is_whole) [] [] f_is_whole fd_is_whole)
    (h_F_is_whole_from : FunD K "is_whole_from" "is_whole_from" (defArgs s_is_whole_from) (defBody s_is_whole_from) (defScope s_is_whole_from) [] [] f_is_whole_from fd_is_whole_from)
    (h_F_is_word_of : FunD K "is_word_of" "is_word_of" (defArgs s_is_word_of) (defBody s_is_word_of) (defScope s_is_word_of) [] [] f_is_word_of fd_is_word_of)
    (h_F_lesser : FunD K "lesser" "lesser" (defArgs s_lesser) (defBody s_lesser) (defScope s_lesser) [] [] f_lesser fd_lesser)
    (h_F_is_size : FunD K "is_size" "is_size" (defArgs s_is_size) (defBody s_is_size) (defScope s_is_size) [] [] f_is_size fd_is_size)
    (h_F_check_size : FunD K "check_size" "check_size" (defArgs s_check_size) (defBody s_check_size) (defScope s_check_size) [] [] f_check_size fd_check_size)
    (h_F_Formu__initu_ : FunD K "__init__" "Form.__init__" (defArgs s_Formu__initu_) (defBody s_Formu__initu_) (defScope s_Formu__initu_) [] [] f_Formu__initu_ fd_Formu__initu_)
    (h_F_form_at : FunD K "form_at" "form_at" (defArgs s_form_at) (defBody s_form_at) (defScope s_form_at) [] [] f_form_at fd_form_at)
    (h_F_Scheme_wrap : FunD K "wrap" "Scheme.wrap" (defArgs s_Scheme_wrap) (defBody s_Scheme_wrap) (defScope s_Scheme_wrap) [] [] f_Scheme_wrap fd_Scheme_wrap)
    (h_F_wrap_at : FunD K "wrap_at" "wrap_at" (defArgs s_wrap_at) (defBody s_wrap_at) (defScope s_wrap_at) [] [] f_wrap_at fd_wrap_at)
    (h_F_modulus_of : FunD K "modulus_of" "modulus_of" (defArgs s_modulus_of) (defBody s_modulus_of) (defScope s_modulus_of) [] [] f_modulus_of fd_modulus_of)
    (h_F_Scheme_slot : FunD K "slot" "Scheme.slot" (defArgs s_Scheme_slot) (defBody s_Scheme_slot) (defScope s_Scheme_slot) [] [] f_Scheme_slot fd_Scheme_slot)
    (h_F_window_at : FunD K "window_at" "window_at" (defArgs s_window_at) (defBody s_window_at) (defScope s_window_at) [] [] f_window_at fd_window_at)
    (h_F_window_of : FunD K "window_of" "window_of" (defArgs s_window_of) (defBody s_window_of) (defScope s_window_of) [] [] f_window_of fd_window_of)
    (h_F_alike_of : FunD K "alike_of" "alike_of" (defArgs s_alike_of) (defBody s_alike_of) (defScope s_alike_of) [] [] f_alike_of fd_alike_of)
    (h_F_is_small_form : FunD K "is_small_form" "is_small_form" (defArgs s_is_small_form) (defBody s_is_small_form) (defScope s_is_small_form) [] [] f_is_small_form fd_is_small_form)
    (h_F_is_full : FunD K "is_full" "is_full" (defArgs s_is_full) (defBody s_is_full) (defScope s_is_full) [] [] f_is_full fd_is_full)
    (h_F_is_wrap : FunD K "is_wrap" "is_wrap" (defArgs s_is_wrap) (defBody s_is_wrap) (defScope s_is_wrap) [] [] f_is_wrap fd_is_wrap)
    (h_F_is_part : FunD K "is_part" "is_part" (defArgs s_is_part) (defBody s_is_part) (defScope s_is_part) [] [] f_is_part fd_is_part)
    (h_F_first_wrong : FunD K "first_wrong" "first_wrong" (defArgs s_first_wrong) (defBody s_first_wrong) (defScope s_first_wrong) [] [] f_first_wrong fd_first_wrong)
    (h_F_Schemeu__initu_ : FunD K "__init__" "Scheme.__init__" (defArgs s_Schemeu__initu_) (defBody s_Schemeu__initu_) (defScope s_Schemeu__initu_) [] [("when", .str "refuse")] f_Schemeu__initu_ fd_Schemeu__initu_)
    (h_F_l_source : FunD K "_law_source" "_law_source" (defArgs s_l_source) (defBody s_l_source) (defScope s_l_source) [] [] f_l_source fd_l_source)
    (h_F_l_draw : FunD K "_law_draw" "_law_draw" (defArgs s_l_draw) (defBody s_l_draw) (defScope s_l_draw) [] [] f_l_draw fd_l_draw)
    (h_F_l_pick : FunD K "_law_pick" "_law_pick" (defArgs s_l_pick) (defBody s_l_pick) (defScope s_l_pick) [] [] f_l_pick fd_l_pick)
    (h_F_l_limit : FunD K "_law_limit" "_law_limit" (defArgs s_l_limit) (defBody s_l_limit) (defScope s_l_limit) [] [] f_l_limit fd_l_limit)
    (h_F_l_parts : FunD K "_law_parts" "_law_parts" (defArgs s_l_parts) (defBody s_l_parts) (defScope s_l_parts) [] [] f_l_parts fd_l_parts)
    (h_F_l_wrap : FunD K "_law_wrap" "_law_wrap" (defArgs s_l_wrap) (defBody s_l_wrap) (defScope s_l_wrap) [] [] f_l_wrap fd_l_wrap)
    (h_F_l_rule : FunD K "_law_rule" "_law_rule" (defArgs s_l_rule) (defBody s_l_rule) (defScope s_l_rule) [] [] f_l_rule fd_l_rule)
    (h_F_l_scheme : FunD K "_law_scheme" "_law_scheme" (defArgs s_l_scheme) (defBody s_l_scheme) (defScope s_l_scheme) [] [] f_l_scheme fd_l_scheme)
    (h_F_l_modulus : FunD K "_law_modulus" "_law_modulus" (defArgs s_l_modulus) (defBody s_l_modulus) (defScope s_l_modulus) [] [] f_l_modulus fd_l_modulus)
    (h_F_l_slot : FunD K "_law_slot" "_law_slot" (defArgs s_l_slot) (defBody s_l_slot) (defScope s_l_slot) [] [] f_l_slot fd_l_slot)
    (h_F_l_gap : FunD K "_law_gap" "_law_gap" (defArgs s_l_gap) (defBody s_l_gap) (defScope s_l_gap) [] [] f_l_gap fd_l_gap)
    (h_F_l_unlike : FunD K "_law_unlike" "_law_unlike" (defArgs s_l_unlike) (defBody s_l_unlike) (defScope s_l_unlike) [] [] f_l_unlike fd_l_unlike)
    (h_F_law : FunD K "law" "law" (defArgs s_law) (defBody s_law) (defScope s_law) [] [] f_law fd_law)
    (h_pg_Scheme_wrap : PySem.W.specialIn K (.ref p_Scheme_wrap) "__get__" = some (some (.builtin "property.__get__")))
    (h_pt_Scheme_wrap : PySem.W.takesIn K (.ref p_Scheme_wrap) = some true)
    (h_pg_Scheme_slot : PySem.W.specialIn K (.ref p_Scheme_slot) "__get__" = some (some (.builtin "property.__get__")))
    (h_pt_Scheme_slot : PySem.W.takesIn K (.ref p_Scheme_slot) = some true)
    (h_nf_Form_Form : PySem.W.notFirst K c_Form (.ref c_Form) = true)
    (h_nf_int_Form : PySem.W.notFirst K c_Form (.type "int") = true)
    : ∃ fd : FuncData, (∀ (s : Shared) (v : Value), BindsTo s fd ⟨[v], []⟩ [("_law_script", v)]) ∧ ∀ base : Heap, K.In base → base.Ns mainGlobals mg → FnOk l.prog w K mg base CX0 9 fa fd ["_law_script"] (sp_law K) := by
  have e := hfa.symm.trans (PySem.W.mg_of X G h_m_law)
  cases e
  have T : Txt w K mg ⟨f_has_outside, fd_has_outside, f_mask_of, fd_mask_of, f_steps_to_bits, fd_steps_to_bits, f_mask_gaps, fd_mask_gaps, f_off_spans, fd_off_spans, f_rest_spans, fd_rest_spans, f_steps_to_span, fd_steps_to_span, f_gaps_from, fd_gaps_from, f_lowest_bit, fd_lowest_bit, f_is_whole, fd_is_whole, f_is_whole_from, fd_is_whole_from, f_is_word_of, fd_is_word_of, f_lesser, fd_lesser, f_is_size, fd_is_size, f_check_size, fd_check_size, f_Formu__initu_, fd_Formu__initu_, f_form_at, fd_form_at, f_Scheme_wrap, fd_Scheme_wrap, f_wrap_at, fd_wrap_at, f_modulus_of, fd_modulus_of, f_Scheme_slot, fd_Scheme_slot, f_window_at, fd_window_at, f_window_of, fd_window_of, f_alike_of, fd_alike_of, f_is_small_form, fd_is_small_form, f_is_full, fd_is_full, f_is_wrap, fd_is_wrap, f_is_part, fd_is_part, f_first_wrong, fd_first_wrong, f_Schemeu__initu_, fd_Schemeu__initu_, f_l_source, fd_l_source, f_l_draw, fd_l_draw, f_l_pick, fd_l_pick, f_l_limit, fd_l_limit, f_l_parts, fd_l_parts, f_l_wrap, fd_l_wrap, f_l_rule, fd_l_rule, f_l_scheme, fd_l_scheme, f_l_modulus, fd_l_modulus, f_l_slot, fd_l_slot, f_l_gap, fd_l_gap, f_l_unlike, fd_l_unlike, fa, fd_law, c_Form, c_Scheme, p_Scheme_wrap, p_Scheme_slot, t_GREATEST_SIZE, t_PART_NAMES, t_PART_WORDS, t_PART_WORDS_slot, t_PART_WORDS_empty, t_PART_WORDS_when, t_MEASURES, t_SIGNS, t_PLAIN_FULLS, t_GREATEST_SLOPE, t_GREATEST_BASE, t_GREATEST_WIDTH⟩ := {
    n_abs := PySem.W.mg_none_of X G h_n_abs,
    n_bool := PySem.W.mg_none_of X G h_n_bool,
    n_int := PySem.W.mg_none_of X G h_n_int,
    n_isinstance := PySem.W.mg_none_of X G h_n_isinstance,
    n_len := PySem.W.mg_none_of X G h_n_len,
    n_max := PySem.W.mg_none_of X G h_n_max,
    n_min := PySem.W.mg_none_of X G h_n_min,
    n_range := PySem.W.mg_none_of X G h_n_range,
    n_set := PySem.W.mg_none_of X G h_n_set,
    n_sorted := PySem.W.mg_none_of X G h_n_sorted,
    n_str := PySem.W.mg_none_of X G h_n_str,
    n_tuple := PySem.W.mg_none_of X G h_n_tuple,
    m_GREATEST_SIZE := PySem.W.mg_of X G h_m_GREATEST_SIZE,
    m_PART_NAMES := PySem.W.mg_of X G h_m_PART_NAMES,
    q_PART_NAMES := Hd.tupB_ok h_tq_PART_NAMES,
    m_PART_WORDS := PySem.W.mg_of X G h_m_PART_WORDS,
    q_PART_WORDS_slot := Hd.tupB_ok h_tq_PART_WORDS_slot,
    d_PART_WORDS_slot := ⟨_, _, _, h_lD_PART_WORDS, h_zk_PART_WORDS, h_ns_PART_WORDS_slot, rfl⟩,
    q_PART_WORDS_empty := Hd.tupB_ok h_tq_PART_WORDS_empty,
    d_PART_WORDS_empty := ⟨_, _, _, h_lD_PART_WORDS, h_zk_PART_WORDS, h_ns_PART_WORDS_empty, rfl⟩,
    q_PART_WORDS_when := Hd.tupB_ok h_tq_PART_WORDS_when,
    d_PART_WORDS_when := ⟨_, _, _, h_lD_PART_WORDS, h_zk_PART_WORDS, h_ns_PART_WORDS_when, rfl⟩,
    m_MEASURES := PySem.W.mg_of X G h_m_MEASURES,
    q_MEASURES := Hd.tupB_ok h_tq_MEASURES,
    m_SIGNS := PySem.W.mg_of X G h_m_SIGNS,
    q_SIGNS := Hd.tupB_ok h_tq_SIGNS,
    m_PLAIN_FULLS := PySem.W.mg_of X G h_m_PLAIN_FULLS,
    q_PLAIN_FULLS := Hd.tupB_ok h_tq_PLAIN_FULLS,
    m_GREATEST_SLOPE := PySem.W.mg_of X G h_m_GREATEST_SLOPE,
    m_GREATEST_BASE := PySem.W.mg_of X G h_m_GREATEST_BASE,
    m_GREATEST_WIDTH := PySem.W.mg_of X G h_m_GREATEST_WIDTH,
    m_Form := PySem.W.mg_of X G h_m_Form,
    k_Form := ⟨h_pg_Form, h_hd_Form, h_po_Form, h_sa_Form⟩,
    n_Form_slope := h_n_Form_slope,
    n_Form_base := h_n_Form_base,
    K_Form := ⟨h_mk_Form, h_in_Form, h_ii_Form, h_kp_Form⟩,
    i_Form := ⟨h_ha_Form, h_hn_Form, h_htk_Form, h_mo_Form⟩,
    kt_Form_Form := h_kt_Form_Form,
    kt_int_Form := h_kt_int_Form,
    m_Scheme := PySem.W.mg_of X G h_m_Scheme,
    k_Scheme := ⟨h_pg_Scheme, h_hd_Scheme, h_po_Scheme, h_sa_Scheme⟩,
    n_Scheme_parts := h_n_Scheme_parts,
    K_Scheme := ⟨h_mk_Scheme, h_in_Scheme, h_ii_Scheme, h_kp_Scheme⟩,
    m_has_outside := PySem.W.mg_of X G h_m_has_outside,
    F_has_outside := Hd.plain h_F_has_outside,
    b_has_outside := (Hd.plain h_F_has_outside).binds fun _ _ _ _ _ _ us hl => match us, hl with | [_, _, _], _ => rfl,
    m_mask_of := PySem.W.mg_of X G h_m_mask_of,
    F_mask_of := Hd.plain h_F_mask_of,
    b_mask_of := (Hd.plain h_F_mask_of).binds fun _ _ _ _ _ _ us hl => match us, hl with | [_, _], _ => rfl,
    m_steps_to_bits := PySem.W.mg_of X G h_m_steps_to_bits,
    F_steps_to_bits := Hd.plain h_F_steps_to_bits,
    b_steps_to_bits := (Hd.plain h_F_steps_to_bits).binds fun _ _ _ _ _ _ us hl => match us, hl with | [_, _, _, _], _ => rfl,
    m_mask_gaps := PySem.W.mg_of X G h_m_mask_gaps,
    F_mask_gaps := Hd.plain h_F_mask_gaps,
    b_mask_gaps := (Hd.plain h_F_mask_gaps).binds fun _ _ _ _ _ _ us hl => match us, hl with | [_, _, _], _ => rfl,
    m_off_spans := PySem.W.mg_of X G h_m_off_spans,
    F_off_spans := Hd.plain h_F_off_spans,
    b_off_spans := (Hd.plain h_F_off_spans).binds fun _ _ _ _ _ _ us hl => match us, hl with | [_, _], _ => rfl,
    m_rest_spans := PySem.W.mg_of X G h_m_rest_spans,
    F_rest_spans := Hd.plain h_F_rest_spans,
    b_rest_spans := (Hd.plain h_F_rest_spans).binds fun _ _ _ _ _ _ us hl => match us, hl with | [_, _], _ => rfl,
    m_steps_to_span := PySem.W.mg_of X G h_m_steps_to_span,
    F_steps_to_span := Hd.plain h_F_steps_to_span,
    b_steps_to_span := (Hd.plain h_F_steps_to_span).binds fun _ _ _ _ _ _ us hl => match us, hl with | [_, _, _, _], _ => rfl,
    m_gaps_from := PySem.W.mg_of X G h_m_gaps_from,
    F_gaps_from := Hd.plain h_F_gaps_from,
    b_gaps_from := (Hd.plain h_F_gaps_from).binds fun _ _ _ _ _ _ us hl => match us, hl with | [_, _, _, _], _ => rfl,
    m_lowest_bit := PySem.W.mg_of X G h_m_lowest_bit,
    F_lowest_bit := Hd.plain h_F_lowest_bit,
    b_lowest_bit := (Hd.plain h_F_lowest_bit).binds fun _ _ _ _ _ _ us hl => match us, hl with | [_], _ => rfl,
    m_is_whole := PySem.W.mg_of X G h_m_is_whole,
    F_is_whole := Hd.plain h_F_is_whole,
    b_is_whole := (Hd.plain h_F_is_whole).binds fun _ _ _ _ _ _ us hl => match us, hl with | [_], _ => rfl,
    m_is_whole_from := PySem.W.mg_of X G h_m_is_whole_from,
    F_is_whole_from := Hd.plain h_F_is_whole_from,
    b_is_whole_from := (Hd.plain h_F_is_whole_from).binds fun _ _ _ _ _ _ us hl => match us, hl with | [_, _, _], _ => rfl,
    m_is_word_of := PySem.W.mg_of X G h_m_is_word_of,
    F_is_word_of := Hd.plain h_F_is_word_of,
    b_is_word_of := (Hd.plain h_F_is_word_of).binds fun _ _ _ _ _ _ us hl => match us, hl with | [_, _], _ => rfl,
    m_lesser := PySem.W.mg_of X G h_m_lesser,
    F_lesser := Hd.plain h_F_lesser,
    b_lesser := (Hd.plain h_F_lesser).binds fun _ _ _ _ _ _ us hl => match us, hl with | [_, _], _ => rfl,
    m_is_size := PySem.W.mg_of X G h_m_is_size,
    F_is_size := Hd.plain h_F_is_size,
    b_is_size := (Hd.plain h_F_is_size).binds fun _ _ _ _ _ _ us hl => match us, hl with | [_], _ => rfl,
    m_check_size := PySem.W.mg_of X G h_m_check_size,
    F_check_size := Hd.plain h_F_check_size,
    b_check_size := (Hd.plain h_F_check_size).binds fun _ _ _ _ _ _ us hl => match us, hl with | [_], _ => rfl,
    F_Formu__initu_ := Hd.plain h_F_Formu__initu_,
    b_Formu__initu_ := (Hd.plain h_F_Formu__initu_).binds fun _ _ _ _ _ _ us hl => match us, hl with | [_, _, _], _ => rfl,
    m_form_at := PySem.W.mg_of X G h_m_form_at,
    F_form_at := Hd.plain h_F_form_at,
    b_form_at := (Hd.plain h_F_form_at).binds fun _ _ _ _ _ _ us hl => match us, hl with | [_, _], _ => rfl,
    F_Scheme_wrap := Hd.plain h_F_Scheme_wrap,
    b_Scheme_wrap := (Hd.plain h_F_Scheme_wrap).binds fun _ _ _ _ _ _ us hl => match us, hl with | [_], _ => rfl,
    m_wrap_at := PySem.W.mg_of X G h_m_wrap_at,
    F_wrap_at := Hd.plain h_F_wrap_at,
    b_wrap_at := (Hd.plain h_F_wrap_at).binds fun _ _ _ _ _ _ us hl => match us, hl with | [_, _], _ => rfl,
    m_modulus_of := PySem.W.mg_of X G h_m_modulus_of,
    F_modulus_of := Hd.plain h_F_modulus_of,
    b_modulus_of := (Hd.plain h_F_modulus_of).binds fun _ _ _ _ _ _ us hl => match us, hl with | [_, _], _ => rfl,
    F_Scheme_slot := Hd.plain h_F_Scheme_slot,
    b_Scheme_slot := (Hd.plain h_F_Scheme_slot).binds fun _ _ _ _ _ _ us hl => match us, hl with | [_], _ => rfl,
    m_window_at := PySem.W.mg_of X G h_m_window_at,
    F_window_at := Hd.plain h_F_window_at,
    b_window_at := (Hd.plain h_F_window_at).binds fun _ _ _ _ _ _ us hl => match us, hl with | [_, _, _], _ => rfl,
    m_window_of := PySem.W.mg_of X G h_m_window_of,
    F_window_of := Hd.plain h_F_window_of,
    b_window_of := (Hd.plain h_F_window_of).binds fun _ _ _ _ _ _ us hl => match us, hl with | [_, _], _ => rfl,
    m_alike_of := PySem.W.mg_of X G h_m_alike_of,
    F_alike_of := Hd.plain h_F_alike_of,
    b_alike_of := (Hd.plain h_F_alike_of).binds fun _ _ _ _ _ _ us hl => match us, hl with | [_, _], _ => rfl,
    m_is_small_form := PySem.W.mg_of X G h_m_is_small_form,
    F_is_small_form := Hd.plain h_F_is_small_form,
    b_is_small_form := (Hd.plain h_F_is_small_form).binds fun _ _ _ _ _ _ us hl => match us, hl with | [_], _ => rfl,
    m_is_full := PySem.W.mg_of X G h_m_is_full,
    F_is_full := Hd.plain h_F_is_full,
    b_is_full := (Hd.plain h_F_is_full).binds fun _ _ _ _ _ _ us hl => match us, hl with | [_], _ => rfl,
    m_is_wrap := PySem.W.mg_of X G h_m_is_wrap,
    F_is_wrap := Hd.plain h_F_is_wrap,
    b_is_wrap := (Hd.plain h_F_is_wrap).binds fun _ _ _ _ _ _ us hl => match us, hl with | [_], _ => rfl,
    m_is_part := PySem.W.mg_of X G h_m_is_part,
    F_is_part := Hd.plain h_F_is_part,
    b_is_part := (Hd.plain h_F_is_part).binds fun _ _ _ _ _ _ us hl => match us, hl with | [_, _], _ => rfl,
    m_first_wrong := PySem.W.mg_of X G h_m_first_wrong,
    F_first_wrong := Hd.plain h_F_first_wrong,
    b_first_wrong := (Hd.plain h_F_first_wrong).binds fun _ _ _ _ _ _ us hl => match us, hl with | [_], _ => rfl,
    F_Schemeu__initu_ := h_F_Schemeu__initu_,
    kb_Schemeu__initu_ := FunD.kbinds0 (kws := [("when", .str "refuse")]) (ps := ["self", "wrap", "slot", "empty", "full", "when"]) (show FunD K _ _ _ _ _ _ _ _ _ from h_F_Schemeu__initu_) 1 ["wrap", "slot", "empty", "full", "when"] [] (fun us _ ws => us ++ ws) (by simp) (by simp) (fun r1 _ r3 => r1.append r3) (fun D doc pm an cdv ct us mv ws h1 h2 h3 => match us, mv, ws, h1, h2, h3 with | [_], [], [_, _, _, _, _], _, _, _ => rfl),
    m_l_source := PySem.W.mg_of X G h_m_l_source,
    F_l_source := Hd.plain h_F_l_source,
    b_l_source := (Hd.plain h_F_l_source).binds fun _ _ _ _ _ _ us hl => match us, hl with | [_, _], _ => rfl,
    m_l_draw := PySem.W.mg_of X G h_m_l_draw,
    F_l_draw := Hd.plain h_F_l_draw,
    b_l_draw := (Hd.plain h_F_l_draw).binds fun _ _ _ _ _ _ us hl => match us, hl with | [_, _], _ => rfl,
    m_l_pick := PySem.W.mg_of X G h_m_l_pick,
    F_l_pick := Hd.plain h_F_l_pick,
    b_l_pick := (Hd.plain h_F_l_pick).binds fun _ _ _ _ _ _ us hl => match us, hl with | [_, _], _ => rfl,
    m_l_limit := PySem.W.mg_of X G h_m_l_limit,
    F_l_limit := Hd.plain h_F_l_limit,
    b_l_limit := (Hd.plain h_F_l_limit).binds fun _ _ _ _ _ _ us hl => match us, hl with | [_], _ => rfl,
    m_l_parts := PySem.W.mg_of X G h_m_l_parts,
    F_l_parts := Hd.plain h_F_l_parts,
    b_l_parts := (Hd.plain h_F_l_parts).binds fun _ _ _ _ _ _ us hl => match us, hl with | [_, _], _ => rfl,
    m_l_wrap := PySem.W.mg_of X G h_m_l_wrap,
    F_l_wrap := Hd.plain h_F_l_wrap,
    b_l_wrap := (Hd.plain h_F_l_wrap).binds fun _ _ _ _ _ _ us hl => match us, hl with | [_], _ => rfl,
    m_l_rule := PySem.W.mg_of X G h_m_l_rule,
    F_l_rule := Hd.plain h_F_l_rule,
    b_l_rule := (Hd.plain h_F_l_rule).binds fun _ _ _ _ _ _ us hl => match us, hl with | [_], _ => rfl,
    m_l_scheme := PySem.W.mg_of X G h_m_l_scheme,
    F_l_scheme := Hd.plain h_F_l_scheme,
    b_l_scheme := (Hd.plain h_F_l_scheme).binds fun _ _ _ _ _ _ us hl => match us, hl with | [_], _ => rfl,
    m_l_modulus := PySem.W.mg_of X G h_m_l_modulus,
    F_l_modulus := Hd.plain h_F_l_modulus,
    b_l_modulus := (Hd.plain h_F_l_modulus).binds fun _ _ _ _ _ _ us hl => match us, hl with | [_, _], _ => rfl,
    m_l_slot := PySem.W.mg_of X G h_m_l_slot,
    F_l_slot := Hd.plain h_F_l_slot,
    b_l_slot := (Hd.plain h_F_l_slot).binds fun _ _ _ _ _ _ us hl => match us, hl with | [_, _, _], _ => rfl,
    m_l_gap := PySem.W.mg_of X G h_m_l_gap,
    F_l_gap := Hd.plain h_F_l_gap,
    b_l_gap := (Hd.plain h_F_l_gap).binds fun _ _ _ _ _ _ us hl => match us, hl with | [_, _], _ => rfl,
    m_l_unlike := PySem.W.mg_of X G h_m_l_unlike,
    F_l_unlike := Hd.plain h_F_l_unlike,
    b_l_unlike := (Hd.plain h_F_l_unlike).binds fun _ _ _ _ _ _ us hl => match us, hl with | [_, _], _ => rfl,
    m_law := PySem.W.mg_of X G h_m_law,
    F_law := Hd.plain h_F_law,
    b_law := (Hd.plain h_F_law).binds fun _ _ _ _ _ _ us hl => match us, hl with | [_], _ => rfl,
    R_Scheme_wrap := ⟨h_a1_Scheme_wrap, h_pg_Scheme_wrap, h_pt_Scheme_wrap, ⟨_, h_a2_Scheme_wrap⟩⟩,
    R_Scheme_slot := ⟨h_a1_Scheme_slot, h_pg_Scheme_slot, h_pt_Scheme_slot, ⟨_, h_a2_Scheme_slot⟩⟩,
    nf_Form_Form := h_nf_Form_Form,
    nf_int_Form := h_nf_int_Form }
  have bl := FunD.bindsA (ps := ["_law_script"]) h_F_law fun _ _ _ _ _ _ us hl => match us, hl with | [_], _ => rfl
  exact ⟨fd_law, fun s v => bl s [v] rfl, fun base _ _ => ok_law T⟩
theorem facts {P : PySem.W.OpenLaw} {w : World} {K : PySem.W.Frag} {h : Heap} {mg : Str → Option Value} {fa : Addr} (X : K.In h) (G : h.Ns mainGlobals mg) (hfa : mg "law" = some (.ref fa)) (c : Hd.tell fns tbs exs K = Hd.told fns tbs w) :
    ∃ fd : FuncData, (∀ (s : Shared) (v : Value), BindsTo s fd ⟨[v], []⟩ [("_law_script", v)]) ∧ ∀ base : Heap, K.In base → base.Ns mainGlobals mg → FnOk P.prog w K mg base CX0 9 fa fd ["_law_script"] (sp_law K) := by
  have e := Hd.exOf c
  obtain ⟨e0, e⟩ := He.ba e
  obtain ⟨h_n_abs, h_n_bool, h_n_int, h_n_isinstance, h_n_len, h_n_max, h_n_min, h_n_range, h_n_set, h_n_sorted, h_n_str, h_n_tuple⟩ := (show Px0 K from of_decide_eq_true e0)
  obtain ⟨e1, e⟩ := He.ba e
  obtain ⟨h_m_GREATEST_SIZE, h_m_PART_NAMES, h_m_PART_WORDS, h_m_MEASURES, h_m_SIGNS, h_m_PLAIN_FULLS, h_m_GREATEST_SLOPE, h_m_GREATEST_BASE, h_m_GREATEST_WIDTH, h_m_Form, h_n_Form_slope, h_n_Form_base⟩ := (show Px1 K from of_decide_eq_true e1)
  obtain ⟨e2, e⟩ := He.ba e
  obtain ⟨h_m_Scheme, h_n_Scheme_parts, h_m_has_outside, h_m_mask_of, h_m_steps_to_bits, h_m_mask_gaps, h_m_off_spans, h_m_rest_spans, h_m_steps_to_span, h_m_gaps_from, h_m_lowest_bit, h_m_is_whole⟩ := (show Px2 K from of_decide_eq_true e2)
  obtain ⟨e3, e⟩ := He.ba e
  obtain ⟨h_m_is_whole_from, h_m_is_word_of, h_m_lesser, h_m_is_size, h_m_check_size, h_m_form_at, h_m_wrap_at, h_m_modulus_of, h_m_window_at, h_m_window_of, h_m_alike_of, h_m_is_small_form⟩ := (show Px3 K from of_decide_eq_true e3)
  obtain ⟨e4, e⟩ := He.ba e
  obtain ⟨h_m_is_full, h_m_is_wrap, h_m_is_part, h_m_first_wrong, h_m_l_source, h_m_l_draw, h_m_l_pick, h_m_l_limit, h_m_l_parts, h_m_l_wrap, h_m_l_rule, h_m_l_scheme⟩ := (show Px4 K from of_decide_eq_true e4)
  obtain ⟨e5, e⟩ := He.ba e
  obtain ⟨h_m_l_modulus, h_m_l_slot, h_m_l_gap, h_m_l_unlike, h_m_law, h_in_Form, h_in_Scheme, h_a1_Scheme_wrap, h_a1_Scheme_slot, h_ns_PART_WORDS_slot, h_ns_PART_WORDS_empty, h_ns_PART_WORDS_when⟩ := (show Px5 K from of_decide_eq_true e5)
  obtain ⟨e6, e⟩ := He.ba e
  obtain ⟨h_a2_Scheme_wrap, h_a2_Scheme_slot, h_tq_PART_NAMES, h_tq_PART_WORDS_slot, h_tq_PART_WORDS_empty, h_tq_PART_WORDS_when, h_tq_MEASURES, h_tq_SIGNS, h_tq_PLAIN_FULLS, h_pg_Form, h_hd_Form, h_po_Form⟩ := (show Px6 K from of_decide_eq_true e6)
  obtain ⟨e7, e⟩ := He.ba e
  obtain ⟨h_sa_Form, h_mk_Form, h_ii_Form, h_kp_Form, h_ha_Form, h_mo_Form, h_hn_Form, h_htk_Form, h_kt_Form_Form, h_kt_int_Form, h_pg_Scheme, h_hd_Scheme⟩ := (show Px7 K from of_decide_eq_true e7)
  obtain ⟨e8, e⟩ := He.ba e
  obtain ⟨h_po_Scheme, h_sa_Scheme, h_mk_Scheme, h_ii_Scheme, h_kp_Scheme, h_pg_Scheme_wrap, h_pt_Scheme_wrap, h_pg_Scheme_slot, h_pt_Scheme_slot, h_nf_Form_Form, h_nf_int_Form⟩ := (show Px8 K from of_decide_eq_true e8)
  obtain ⟨fd_has_outside, h_F_has_outside⟩ := Hd.fnOf c 0 (d := df0) rfl
  obtain ⟨fd_mask_of, h_F_mask_of⟩ := Hd.fnOf c 1 (d := df1) rfl
  obtain ⟨fd_steps_to_bits, h_F_steps_to_bits⟩ := Hd.fnOf c 2 (d := df2) rfl
  obtain ⟨fd_mask_gaps, h_F_mask_gaps⟩ := Hd.fnOf c 3 (d := df3) rfl
  obtain ⟨fd_off_spans, h_F_off_spans⟩ := Hd.fnOf c 4 (d := df4) rfl
  obtain ⟨fd_rest_spans, h_F_rest_spans⟩ := Hd.fnOf c 5 (d := df5) rfl
  obtain ⟨fd_steps_to_span, h_F_steps_to_span⟩ := Hd.fnOf c 6 (d := df6) rfl
  obtain ⟨fd_gaps_from, h_F_gaps_from⟩ := Hd.fnOf c 7 (d := df7) rfl
  obtain ⟨fd_lowest_bit, h_F_lowest_bit⟩ := Hd.fnOf c 8 (d := df8) rfl
  obtain ⟨fd_is_whole, h_F_is_whole⟩ := Hd.fnOf c 9 (d := df9) rfl
  obtain ⟨fd_is_whole_from, h_F_is_whole_from⟩ := Hd.fnOf c 10 (d := df10) rfl
  obtain ⟨fd_is_word_of, h_F_is_word_of⟩ := Hd.fnOf c 11 (d := df11) rfl
  obtain ⟨fd_lesser, h_F_lesser⟩ := Hd.fnOf c 12 (d := df12) rfl
  obtain ⟨fd_is_size, h_F_is_size⟩ := Hd.fnOf c 13 (d := df13) rfl
  obtain ⟨fd_check_size, h_F_check_size⟩ := Hd.fnOf c 14 (d := df14) rfl
  obtain ⟨fd_Formu__initu_, h_F_Formu__initu_⟩ := Hd.fnOf c 15 (d := df15) rfl
  obtain ⟨fd_form_at, h_F_form_at⟩ := Hd.fnOf c 16 (d := df16) rfl
  obtain ⟨fd_Scheme_wrap, h_F_Scheme_wrap⟩ := Hd.fnOf c 17 (d := df17) rfl
  obtain ⟨fd_wrap_at, h_F_wrap_at⟩ := Hd.fnOf c 18 (d := df18) rfl
  obtain ⟨fd_modulus_of, h_F_modulus_of⟩ := Hd.fnOf c 19 (d := df19) rfl
  obtain ⟨fd_Scheme_slot, h_F_Scheme_slot⟩ := Hd.fnOf c 20 (d := df20) rfl
  obtain ⟨fd_window_at, h_F_window_at⟩ := Hd.fnOf c 21 (d := df21) rfl
  obtain ⟨fd_window_of, h_F_window_of⟩ := Hd.fnOf c 22 (d := df22) rfl
  obtain ⟨fd_alike_of, h_F_alike_of⟩ := Hd.fnOf c 23 (d := df23) rfl
  obtain ⟨fd_is_small_form, h_F_is_small_form⟩ := Hd.fnOf c 24 (d := df24) rfl
  obtain ⟨fd_is_full, h_F_is_full⟩ := Hd.fnOf c 25 (d := df25) rfl
  obtain ⟨fd_is_wrap, h_F_is_wrap⟩ := Hd.fnOf c 26 (d := df26) rfl
  obtain ⟨fd_is_part, h_F_is_part⟩ := Hd.fnOf c 27 (d := df27) rfl
  obtain ⟨fd_first_wrong, h_F_first_wrong⟩ := Hd.fnOf c 28 (d := df28) rfl
  obtain ⟨fd_Schemeu__initu_, h_F_Schemeu__initu_⟩ := Hd.fnOf c 29 (d := df29) rfl
  obtain ⟨fd_l_source, h_F_l_source⟩ := Hd.fnOf c 30 (d := df30) rfl
  obtain ⟨fd_l_draw, h_F_l_draw⟩ := Hd.fnOf c 31 (d := df31) rfl
  obtain ⟨fd_l_pick, h_F_l_pick⟩ := Hd.fnOf c 32 (d := df32) rfl
  obtain ⟨fd_l_limit, h_F_l_limit⟩ := Hd.fnOf c 33 (d := df33) rfl
  obtain ⟨fd_l_parts, h_F_l_parts⟩ := Hd.fnOf c 34 (d := df34) rfl
  obtain ⟨fd_l_wrap, h_F_l_wrap⟩ := Hd.fnOf c 35 (d := df35) rfl
  obtain ⟨fd_l_rule, h_F_l_rule⟩ := Hd.fnOf c 36 (d := df36) rfl
  obtain ⟨fd_l_scheme, h_F_l_scheme⟩ := Hd.fnOf c 37 (d := df37) rfl
  obtain ⟨fd_l_modulus, h_F_l_modulus⟩ := Hd.fnOf c 38 (d := df38) rfl
  obtain ⟨fd_l_slot, h_F_l_slot⟩ := Hd.fnOf c 39 (d := df39) rfl
  obtain ⟨fd_l_gap, h_F_l_gap⟩ := Hd.fnOf c 40 (d := df40) rfl
  obtain ⟨fd_l_unlike, h_F_l_unlike⟩ := Hd.fnOf c 41 (d := df41) rfl
  obtain ⟨fd_law, h_F_law⟩ := Hd.fnOf c 42 (d := df42) rfl
  obtain ⟨es_PART_WORDS, nd_PART_WORDS, hK_PART_WORDS⟩ := Hd.tabOf c 0 (t := (fun K => He.ga K "PART_WORDS", ["slot", "empty", "when"])) rfl
  have hfl : fa = He.ga K "law" := by
    have e := hfa.symm.trans (PySem.W.mg_of X G h_m_law)
    cases e
    rfl
  subst hfl
  exact all_mk X G hfa h_n_abs h_n_bool h_n_int h_n_isinstance h_n_len h_n_max h_n_min h_n_range h_n_set h_n_sorted h_n_str h_n_tuple h_m_GREATEST_SIZE h_m_PART_NAMES h_m_PART_WORDS h_m_MEASURES h_m_SIGNS h_m_PLAIN_FULLS h_m_GREATEST_SLOPE h_m_GREATEST_BASE h_m_GREATEST_WIDTH h_m_Form h_n_Form_slope h_n_Form_base h_m_Scheme h_n_Scheme_parts h_m_has_outside h_m_mask_of h_m_steps_to_bits h_m_mask_gaps h_m_off_spans h_m_rest_spans h_m_steps_to_span h_m_gaps_from h_m_lowest_bit h_m_is_whole h_m_is_whole_from h_m_is_word_of h_m_lesser h_m_is_size h_m_check_size h_m_form_at h_m_wrap_at h_m_modulus_of h_m_window_at h_m_window_of h_m_alike_of h_m_is_small_form h_m_is_full h_m_is_wrap h_m_is_part h_m_first_wrong h_m_l_source h_m_l_draw h_m_l_pick h_m_l_limit h_m_l_parts h_m_l_wrap h_m_l_rule h_m_l_scheme h_m_l_modulus h_m_l_slot h_m_l_gap h_m_l_unlike h_m_law h_in_Form h_in_Scheme h_a1_Scheme_wrap h_a1_Scheme_slot h_ns_PART_WORDS_slot h_ns_PART_WORDS_empty h_ns_PART_WORDS_when h_a2_Scheme_wrap h_a2_Scheme_slot hK_PART_WORDS.at_ h_tq_PART_NAMES h_tq_PART_WORDS_slot hK_PART_WORDS.lit h_tq_PART_WORDS_empty h_tq_PART_WORDS_when h_tq_MEASURES h_tq_SIGNS h_tq_PLAIN_FULLS h_pg_Form h_hd_Form h_po_Form h_sa_Form h_mk_Form h_ii_Form h_kp_Form h_ha_Form h_mo_Form h_hn_Form h_htk_Form h_kt_Form_Form h_kt_int_Form h_pg_Scheme h_hd_Scheme h_po_Scheme h_sa_Scheme h_mk_Scheme h_ii_Scheme h_kp_Scheme h_F_has_outside h_F_mask_of h_F_steps_to_bits h_F_mask_gaps h_F_off_spans h_F_rest_spans h_F_steps_to_span h_F_gaps_from h_F_lowest_bit h_F_is_whole h_F_is_whole_from h_F_is_word_of h_F_lesser h_F_is_size h_F_check_size h_F_Formu__initu_ h_F_form_at h_F_Scheme_wrap h_F_wrap_at h_F_modulus_of h_F_Scheme_slot h_F_window_at h_F_window_of h_F_alike_of h_F_is_small_form h_F_is_full h_F_is_wrap h_F_is_part h_F_first_wrong h_F_Schemeu__initu_ h_F_l_source h_F_l_draw h_F_l_pick h_F_l_limit h_F_l_parts h_F_l_wrap h_F_l_rule h_F_l_scheme h_F_l_modulus h_F_l_slot h_F_l_gap h_F_l_unlike h_F_law h_pg_Scheme_wrap h_pt_Scheme_wrap h_pg_Scheme_slot h_pt_Scheme_slot h_nf_Form_Form h_nf_int_Form
end Pk24
open PySem PySem.W PySem.Calls PyProof.Rows
set_option maxRecDepth 100000 in
set_option maxHeartbeats 0 in
theorem PySem.Challenge.cw_ringindexes_k24_windows_tried_holds : PySem.Challenge.rw_ringindexes_k24_windows_tried.Holds := by
  w_on; o_law
  refine HandSHeadRun.head_any (r := Pk24.R) (q := (PySem.W.view Pk24.R.prog [81])) (H := Pk24.hk) (ob := Pk24.ob) (M := 200000) (loose := Pk24.loose) (d := (HandSHeadRun.topDef Pk24.R.prog 81)) (kwd := []) Pk24.ob_is
    (by kernel_rfl) (fun s => by kernel_rfl) Pk24.run (by kernel_rfl) (by kernel_rfl) (by kernel_rfl) (by rfl) (by first | assumption | decide +kernel) (by decide +kernel) ⟨rfl, rfl, rfl, rfl, rfl, by decide +kernel⟩ ?hw ?hc
  case hw => w_witness2
  case hc =>
    refine L2.walk_ofE (l := PySem.Challenge.rw_ringindexes_k24_windows_tried) (n := 63) (k := 9) (x := "_law_script") (CX := L2.CX0) rfl (by decide) (by kernel_rfl) ⟨rfl, by decide, by decide⟩ ?F (fun _ _ _ _ z => z)
    intro w mg fa h Y G hmg0
    obtain ⟨K, KX, c⟩ := Y
    have hmg : mg ("law" : PySem.Str) = some (.ref fa) := by
      have e : (HandSHeadRun.topDef Pk24.R.prog 81).name = ("law" : PySem.Str) := by kernel_rfl
      rw [← e]
      exact hmg0
    obtain ⟨fd, hb, hF⟩ := Pk24.facts (P := PySem.Challenge.rw_ringindexes_k24_windows_tried) (w := w) KX G hmg c
    exact ⟨K, fd, Pk24.sp_law K, KX, hb, fun H a ns hl _ hS => ⟨a, ns, rfl, hS, hl, fun _ => rfl⟩, hF⟩
