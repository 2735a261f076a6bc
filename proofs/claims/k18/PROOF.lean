import PyProof.Rows.All
import Wide.All
import OpenK.AllK
import Wide.FinOn
import PyProof.EqAt
import PyProof.EqKinds
import PyProof.TupleCall
import PyProof.InstNe
import KE.RegKIsAll
import HandS.ForMost
import HandS.Wide
import HandS.IsInst
import HandS.OwnEq
import HandS.Star
import HandS.Property
import HandS.Defaults
import HandS.WordsExc
import HandS.ExcOwn
import HandS.TupLe
import HandS.SortKw
import KE.KMinBuiltin
import HandS.TryOnly
import HandS.ExcIs
import HandS.CallLocal
import HandS.Walk
import HandS.StrMore
import HandS.FStr
import HandS.NoneIn
import HandS.SetFor
import PyProof.StrLaws
import HandS.Small
import HandS.StrSplit
import HandS.MakeKwOnly
import HandS.More
import HandS.WideBits
import KE.KSortKey
import HandS.HotCalls
import HandS.TupMul
import HandS.TupAny
import KE.GoesMore
import KE.GoesEnum
import HandS.Head0
import HandS.Head1
import HandS.Head2
import HandS.Head3
import HandS.HeadEnd
import HandS.HeadHook1
import HandS.HeadHook2
import HandS.HeadHook3
import PySem.Challenge.RW_ringindexes_k18_runs_put_together
set_option Elab.async false
set_option linter.all false
set_option maxRecDepth 100000
set_option maxHeartbeats 40000000
/-! ## steps of readings: each lemma opens one construct -/
namespace Rd
open PySem PySem.Spec PyProof.Rows L2

section
variable {σ : L2.St} {H : Hp} {Q : VK} {D : Ends} {K : PySem.W.Frag}
theorem seq {t u : TS} (h : t { D with nx := u D } σ H) : tSeq t u D σ H := h
theorem next (h : D.nx σ H) : tNext D σ H := h
theorem drop {te : TE} (h : te σ H fun _ H1 => D.nx σ H1) : tDrop te D σ H := h
theorem ret {te : TE} (h : te σ H D.rt) : tRet te D σ H := h
theorem retN (h : D.rt .non H) : tRetN D σ H := h
theorem brk (h : D.bk σ H) : tBreak D σ H := h
theorem cont (h : D.ct σ H) : tCont D σ H := h
theorem ifS {c : TT} {t u : TS} (h : c σ H fun b H1 => if b = true then t D σ H1 else u D σ H1) : tIfS c t u D σ H := h
theorem asg {te : TE} {g : TG} (h : te σ H fun x H1 => g x σ H1 D.nx) : tAsg te g D σ H := h
theorem name {i : Nat} {v : V} {q : L2.St → Hp → Prop} (h : q (σ.set i (some v)) H) : gName i v σ H q := h
theorem par {i j : Nat} {ta : TA} (h : ta σ H fun vs H1 => ∃ v w, vs = [v, w] ∧ D.nx ((σ.set i (some v)).set j (some w)) H1) : tPar i j ta D σ H := h
theorem par2 {i j : Nat} {v w : V} (h : D.nx ((σ.set i (some v)).set j (some w)) H) : ∃ v' w', [v, w] = [v', w'] ∧ D.nx ((σ.set i (some v')).set j (some w')) H := ⟨v, w, rfl, h⟩
theorem var {i : Nat} {v : V} (e : σ[i]? = some (some v)) (h : Q v H) : tVar i σ H Q := ⟨v, e, h⟩
theorem c {v : V} (h : Q v H) : tC v σ H Q := h
theorem op {r : R2} {ta tb : TE} (h : ta σ H fun x H1 => tb σ H1 fun y H2 => r x y H2 Q) : tOp r ta tb σ H Q := h
theorem un {r : V → Hp → VK → Prop} {ta : TE} (h : ta σ H fun x H1 => r x H1 Q) : tUn r ta σ H Q := h
theorem i0 {g : Int → Int → V} {i j : Int} (h : Q (g i j) H) : rI0 g (.int i) (.int j) H Q := ⟨i, j, rfl, rfl, h⟩
theorem iC {C : Int → Int → Prop} {g : Int → Int → V} {i j : Int} (e : C i j) (h : Q (g i j) H) : rI C g (.int i) (.int j) H Q := ⟨i, j, rfl, rfl, e, h⟩
theorem iU {g : Int → V} {i : Int} (h : Q (g i) H) : rU g (.int i) H Q := ⟨i, rfl, h⟩
theorem eqS {x y : V} (e : scal x y = true) (h : Q (.bl (decide (x = y))) H) : rEq x y H Q := ⟨e, h⟩
theorem neS {x y : V} (e : scal x y = true) (h : Q (.bl (!decide (x = y))) H) : rNe x y H Q := ⟨e, h⟩
theorem addS {i j : Str} (e : i.length + j.length ≤ sizeLine) (h : Q (.str (i ++ j)) H) : ∃ a b, V.str i = .str a ∧ V.str j = .str b ∧ a.length + b.length ≤ sizeLine ∧ Q (.str (a ++ b)) H := ⟨i, j, rfl, rfl, e, h⟩
theorem isN {x : V} (h : Q (.bl (decide (x = .non))) H) : V.non = .non ∧ Q (.bl (decide (x = .non))) H := ⟨rfl, h⟩
theorem notN {x : V} (h : Q (.bl (!decide (x = .non))) H) : V.non = .non ∧ Q (.bl (!decide (x = .non))) H := ⟨rfl, h⟩
theorem chain {r r' : R2} {ta tb tc : TE} (h : ta σ H fun x H1 => tb σ H1 fun y H2 => r x y H2 fun z H3 => ∃ k, z = .bl k ∧ (if k = true then tc σ H3 fun w' H4 => r' y w' H4 Q else Q (.bl false) H3)) : tChain r r' ta tb tc σ H Q := h
theorem bl {k : Bool} {A : Bool → Prop} (h : A k) : ∃ c, V.bl k = .bl c ∧ A c := ⟨k, rfl, h⟩
theorem test {t : TE} {q : Bool → Hp → Prop} (h : t σ H fun x H' => ∃ k, x = .bl k ∧ q k H') : tTest t σ H q := h
theorem tb {t : TE} {q : Bool → Hp → Prop} (h : t σ H fun x H' => ∃ k, x = .bl k ∧ q k H') : tB t σ H q := h
theorem and {t u : TT} {q : Bool → Hp → Prop} (h : t σ H fun c H1 => if c = true then u σ H1 q else q false H1) : tAnd t u σ H q := h
theorem or {t u : TT} {q : Bool → Hp → Prop} (h : t σ H fun c H1 => if c = true then q true H1 else u σ H1 q) : tOr t u σ H q := h
theorem not {t : TT} {q : Bool → Hp → Prop} (h : t σ H fun c H1 => q (!c) H1) : tNot t σ H q := h
theorem andV {ta tb : TE} (h : ta σ H fun x H1 => ∃ c, x = .bl c ∧ if c = true then tb σ H1 Q else Q (.bl false) H1) : tAndV ta tb σ H Q := h
theorem orV {ta tb : TE} (h : ta σ H fun x H1 => ∃ c, x = .bl c ∧ if c = true then Q (.bl true) H1 else tb σ H1 Q) : tOrV ta tb σ H Q := h
theorem notV {ta : TE} (h : ta σ H fun x H1 => ∃ c, x = .bl c ∧ Q (.bl (!c)) H1) : tNotV ta σ H Q := h
theorem ifE {t : TT} {ta tb : TE} (h : t σ H fun c H1 => if c = true then ta σ H1 Q else tb σ H1 Q) : tIf t ta tb σ H Q := h
theorem nil {q : List V → Hp → Prop} (h : q [] H) : tNil σ H q := h
theorem cons {ta : TE} {tr : TA} {q : List V → Hp → Prop} (h : ta σ H fun x H1 => tr σ H1 fun xs H2 => q (x :: xs) H2) : tCons ta tr σ H q := h
theorem cB {r : List V → Hp → VK → Prop} {t : TA} (h : t σ H fun vs H1 => r vs H1 Q) : tCB r t σ H Q := h
theorem tup {t : TA} (h : t σ H fun xs H1 => xs.length ≤ sizeLine ∧ ∀ p, H1 p = none → Q (.ref p) (upd H1 p (.tup xs))) : tTup t σ H Q := h
theorem lst {t : TA} (h : t σ H fun xs H1 => xs.length ≤ sizeLine ∧ ∀ p, H1 p = none → Q (.ref p) (upd H1 p (.lst xs))) : tLst t σ H Q := h
theorem laid {xs : List V} {A : Addr → Prop} (e : xs.length ≤ 1000) (h : ∀ p, H p = none → A p) : xs.length ≤ sizeLine ∧ ∀ p, H p = none → A p := ⟨Nat.le_of_lt (small1000 e), h⟩
theorem call {sp : Sp} {dvs : List V} {E : XK} {t : TA} (h : t σ H fun vs H1 => sp (vs ++ dvs) H1 Q E) : tCall sp dvs E t σ H Q := h
theorem meth {C : Addr} {m : Str} {sp : Sp} {dvs : List V} {E : XK} {ta : TE} {t : TA} (h : ta σ H fun x H1 => ∃ a dx fs, x = .ref a ∧ H1 a = some (.ins C dx fs) ∧ fs.lookup m = none ∧ t σ H1 fun vs H2 => sp (x :: (vs ++ dvs)) H2 Q E) : tMeth C m sp dvs E ta t σ H Q := h
theorem meth2 {C a dx : Addr} {fs : List (Str × V)} {m : Str} {A : Prop} (e : H a = some (.ins C dx fs)) (l : fs.lookup m = none) (h : A) : ∃ a' dx fs, V.ref a = .ref a' ∧ H a' = some (.ins C dx fs) ∧ fs.lookup m = none ∧ A := ⟨a, dx, fs, rfl, e, l, h⟩
theorem make {C : Addr} {sp : Sp} {dvs : List V} {E : XK} {t : TA} (h : t σ H fun vs H1 => ∀ x dx, H1 x = none → H1 dx = none → dx ≠ x → sp (.ref x :: (vs ++ dvs)) (upd (upd H1 dx (.own x)) x (.ins C dx [])) (fun v H2 => v = .non ∧ Q (.ref x) H2) E) : tMake C sp dvs E t σ H Q := h
theorem fld {ta : TE} {f : Str} (h : ta σ H fun x H1 => ∃ a C dx fs v, x = .ref a ∧ H1 a = some (.ins C dx fs) ∧ Cls K C ∧ NoAttr K C f ∧ fs.lookup f = some v ∧ Q v H1) : tFld K ta f σ H Q := h
theorem fld2 {f : Str} {a C dx : Addr} {fs : List (Str × V)} {v : V} (e : H a = some (.ins C dx fs)) (k : Cls K C) (n : NoAttr K C f) (l : fs.lookup f = some v) (h : Q v H) :
    ∃ a' C' dx fs v, V.ref a = .ref a' ∧ H a' = some (.ins C' dx fs) ∧ Cls K C' ∧ NoAttr K C' f ∧ fs.lookup f = some v ∧ Q v H := ⟨a, C, dx, fs, v, rfl, e, k, n, l, h⟩
theorem sfld {ta tv : TE} {f : Str} (h : tv σ H fun y H1 => ta σ H1 fun x H2 => ∃ a C dx fs, x = .ref a ∧ H2 a = some (.ins C dx fs) ∧ Cls K C ∧ NoAttr K C f ∧ fs.length < 1000 ∧ D.nx σ (upd H2 a (.ins C dx (putF f y fs)))) : sFld K ta tv f D σ H := h
theorem gnil {q : L2.St → Hp → Prop} (h : q σ H) : gNil [] σ H q := ⟨rfl, h⟩
theorem gcons {t : TG} {u : TGs} {v : V} {r : List V} {q : L2.St → Hp → Prop} (h : t v σ H fun σ' H' => u r σ' H' q) : gCons t u (v :: r) σ H q := ⟨v, r, rfl, h⟩
theorem gtup {n : Nat} {t : TGs} {a : Addr} {xs : List V} {q : L2.St → Hp → Prop} (e : SqT K H a xs) (l : xs.length = n) (h : t xs σ H q) : gTup K n t (.ref a) σ H q := ⟨a, xs, rfl, e, l, h⟩
theorem fr {wi : TI} {g : TG} {tb : TS} (h : wi σ H fun J H1 => ∃ W : Nat → Nat → L2.St → Hp → Prop, (∃ m, W 0 m σ H1) ∧ ∀ i m σ H, W i m σ H →
    (J.stop i H ∧ D.nx σ H) ∨ (J.go i H ∧ ∃ N : L2.St → Hp → Prop, (∀ σ' H', N σ' H' → ∃ m', m' < m ∧ W (i + 1) m' σ' H') ∧ ∀ x H', J.yld i H x H' → g x σ H' fun σ2 H2 => tb { D with nx := N, ct := N, bk := D.nx } σ2 H2)) : tFor wi g tb D σ H := h
theorem rng1 {ta : TA} {R : It → Hp → Prop} (h : ta σ H fun vs H1 => ∃ j : Int, vs = [.int j] ∧ -(2 ^ 62) ≤ j ∧ j < 2 ^ 62 ∧ R (Itr 0 j.toNat) H1) : iRng1 ta σ H R := h
theorem prop {C : Addr} {sp : Sp} {dvs : List V} {E : XK} {ta : TE} (h : ta σ H fun x H1 => ∃ a dx fs, x = .ref a ∧ H1 a = some (.ins C dx fs) ∧ sp (.ref a :: dvs) H1 Q E) : tProp C sp dvs E ta σ H Q := h
theorem aug {i : Nat} {te : TE} {ti : TIp} {x : V} (e : σ[i]? = some (some x)) (h : te σ H fun y H1 => ti x y H1 fun z H2 => D.nx (σ.set i (some z)) H2) : tAug i te ti D σ H := ⟨x, e, h⟩
theorem ipI {f : Int → Int → Int} {i j : Int} (h : Q (.int (f i j)) H) : L2.ipI f (.int i) (.int j) H Q := ⟨i, j, rfl, rfl, h⟩
theorem ixL {a : Addr} {xs : List V} {i : Int} {v : V} (e : SqL K H a xs) (l : atI xs i = some v) (h : Q v H) : rIxL K (.ref a) (.int i) H Q := ⟨a, xs, i, v, rfl, rfl, e, l, h⟩
theorem ixT {a : Addr} {xs : List V} {i : Int} {v : V} (e : SqT K H a xs) (l : atI xs i = some v) (h : Q v H) : rIxT K (.ref a) (.int i) H Q := ⟨a, xs, i, v, rfl, rfl, e, l, h⟩
theorem setL {a : Addr} {xs : List V} {k : Int} {j : Nat} {v : V} {q : Hp → Prop} (e : H a = some (.lst xs)) (l : ixN xs.length k = some j) (h : q (upd H a (.lst (xs.set j v)))) : rSetL (.ref a) (.int k) v H q := ⟨a, xs, k, j, rfl, rfl, e, l, h⟩
theorem sub {to ti : TE} {t : TSet} {v : V} {q : L2.St → Hp → Prop} (h : to σ H fun o H1 => ti σ H1 fun i H2 => t o i v H2 fun H3 => q σ H3) : gSub to ti t v σ H q := h
theorem lenQ {a : Addr} {xs : List V} (e : SqL K H a xs ∨ SqT K H a xs) (h : Q (.int xs.length) H) : ∃ p ys, [V.ref a] = [.ref p] ∧ (SqL K H p ys ∨ SqT K H p ys) ∧ Q (.int ys.length) H := ⟨a, xs, rfl, e, h⟩
theorem absI {i : Int} (h : Q (.int (if i < 0 then -i else i)) H) : ∃ j, [V.int i] = [.int j] ∧ Q (.int (if j < 0 then -j else j)) H := ⟨i, rfl, h⟩
theorem intI {i : Int} (h : Q (.int i) H) : (∃ j, [V.int i] = [.int j] ∧ Q (.int j) H) ∨ ∃ k, [V.int i] = [.bl k] ∧ Q (.int (if k then 1 else 0)) H := .inl ⟨i, rfl, h⟩
theorem ite {c A B : Prop} [Decidable c] (h1 : c → A) (h2 : ¬ c → B) : if c then A else B := by
  by_cases h : c
  · rw [if_pos h]; exact h1 h
  · rw [if_neg h]; exact h2 h
theorem iteT {b : Bool} {A B : Prop} (e : b = true) (h : A) : if b = true then A else B := by rw [if_pos e]; exact h
theorem iteF {b : Bool} {A B : Prop} (e : b = false) (h : B) : if b = true then A else B := by rw [e]; exact h
theorem andB {c d : Bool} {t : TE} (h1 : ∀ Q' : VK, Q' (.bl d) H → t σ H Q') (h : Q (.bl (c && d)) H) : if c = true then t σ H Q else Q (.bl false) H := by
  cases c with
  | true => exact h1 Q h
  | false => exact h
theorem orB {c d : Bool} {t : TE} (h1 : ∀ Q' : VK, Q' (.bl d) H → t σ H Q') (h : Q (.bl (c || d)) H) : if c = true then Q (.bl true) H else t σ H Q := by
  cases c with
  | true => exact h
  | false => exact h1 Q h
end
theorem lput {f : Str} {v : V} {fs : List (Str × V)} {n : Nat} (h : fs.length + 1 < n) : (putF f v fs).length < n := Nat.lt_of_le_of_lt (by have := length_putF f v fs; omega) h
theorem lputs {f : Str} {v : V} {fs : List (Str × V)} {n k : Nat} (h : fs.length + (k + 1) < n) : (putF f v fs).length + k < n := Nat.lt_of_le_of_lt (by have := length_putF f v fs; omega) h
theorem ty_tup {K : PySem.W.Frag} {H : Hp} {a : Addr} {xs : List V} (e : H a = some (.tup xs)) : TyX K H (.ref a) (.type "tuple") := .base (.tup e)
theorem ty_lst {K : PySem.W.Frag} {H : Hp} {a : Addr} {xs : List V} (e : H a = some (.lst xs)) : TyX K H (.ref a) (.type "list") := .base (.lst e)
section
variable {K : PySem.W.Frag}
theorem kit_int_int : PySem.W.kitOne K (.type "int") (.type "int") = some true := kit_ty (by decide +kernel)
theorem kit_bool_int : PySem.W.kitOne K (.type "bool") (.type "int") = some true := kit_ty (by decide +kernel)
theorem kit_str_int : PySem.W.kitOne K (.type "str") (.type "int") = some false := kit_ty (by decide +kernel)
theorem kit_none_int : PySem.W.kitOne K (.type "NoneType") (.type "int") = some false := kit_ty (by decide +kernel)
theorem kit_tuple_int : PySem.W.kitOne K (.type "tuple") (.type "int") = some false := kit_ty (by decide +kernel)
theorem kit_list_int : PySem.W.kitOne K (.type "list") (.type "int") = some false := kit_ty (by decide +kernel)
theorem kit_dict_int : PySem.W.kitOne K (.type "dict") (.type "int") = some false := kit_ty (by decide +kernel)
theorem kit_int_bool : PySem.W.kitOne K (.type "int") (.type "bool") = some false := kit_ty (by decide +kernel)
theorem kit_bool_bool : PySem.W.kitOne K (.type "bool") (.type "bool") = some true := kit_ty (by decide +kernel)
theorem kit_str_bool : PySem.W.kitOne K (.type "str") (.type "bool") = some false := kit_ty (by decide +kernel)
theorem kit_str_str : PySem.W.kitOne K (.type "str") (.type "str") = some true := kit_ty (by decide +kernel)
theorem kit_int_str : PySem.W.kitOne K (.type "int") (.type "str") = some false := kit_ty (by decide +kernel)
end
end Rd


/-! ## the operators of own classes, as rules of the layer -/
namespace Own
open PySem PySem.Spec PyProof.Rows L2
section
variable {X : Cx} {pins : List (Addr × Obj)} {σ : L2.St} {H : Hp} {s : Shared}
/-- a value of the layer is never the sign of a declined operator -/
theorem not_declined {v : V} {u : Value} (r : RelV v u) : u ≠ .notImplemented := by
  intro e
  subst e
  cases v with
  | non => cases (show Value.notImplemented = Value.none from r)
  | bl b => cases (show Value.notImplemented = Value.bool b from r)
  | int i => obtain ⟨t, q⟩ := (show ∃ t, Value.notImplemented = Value.int i t from r); cases q
  | str i => obtain ⟨t, q⟩ := (show ∃ t, Value.notImplemented = Value.str i t from r); cases q
  | byt i => obtain ⟨t, q⟩ := (show ∃ t, Value.notImplemented = Value.bytes i t from r); cases q
  | flt i => obtain ⟨t, q⟩ := (show ∃ t, Value.notImplemented = Value.float i t from r); cases q
  | ref a => cases (show Value.notImplemented = Value.ref a from r)
  | ty n => cases (show Value.notImplemented = Value.type n from r)
theorem back {M : Model} {A : Around} {E : Value → Shared → Prop} {m : Sem Value} {Q : VK} (h : wpAny M A m (EP X pins σ Q) E s) : wpAny M A m (PySem.W.CmpBack (EP X pins σ Q)) E s :=
  wpAny_mono h (fun u s' q => by
    have n : u ≠ .notImplemented := by
      obtain ⟨z, H', I, r, _⟩ := q
      exact not_declined r
    cases u <;> first | exact q | exact absurd rfl n) fun _ _ e => e
/-- an instance as the library's rules ask for it -/
theorem inst {a C dx : Addr} {fs : List (Str × V)} (I : Inv X pins σ H s) (h : H a = some (.ins C dx fs)) : ∃ od, PySem.W.InstAt s.heap a (PySem.W.instObj C dx) C od := by
  obtain ⟨mA, J, _⟩ := ins_get I.hok h
  obtain ⟨od, J, _⟩ := J.look
  exact ⟨_, J⟩
/-- the type of any value, told without a step that matters -/
theorem typed {M : Model} {x : V} {u : Value} {t : Value} (I : Inv X pins σ H s) (r : RelV x u) (ty : TyX X.K H x t) : PySem.W.Looks M s.heap (typeOf u) t := by
  obtain ⟨P, Z, p, _⟩ := kit_of I r ty
  exact Z.ty M s.heap I.kIn p
end

/-- an own method behind an operator -/
structure Sp1 (K : PySem.W.Frag) (C : Addr) (m : Str) (f : Addr) : Prop where
  at_ : PySem.W.findIn K (.ref C) m = some (some (.ref f))
  fn : PySem.W.isFn K (.ref f) = true
/-- a two-place operator of an own class -/
structure Bin (K : PySem.W.Frag) (C f : Addr) (op : Operator) : Prop where
  first : PySem.W.selfFirst K C = true
  at_ : PySem.W.findIn K (.ref C) (PySem.dunder op.info.2) = some (some (.ref f))
  fn : PySem.W.isFn K (.ref f) = true
/-- .. beside a value of the built-in type T -/
structure BinT (K : PySem.W.Frag) (C f : Addr) (op : Operator) (T : String) : Prop where
  b : Bin K C f op
  r : ∃ rc, PySem.W.findIn K (.ref C) (dunderR op.info.2) = some rc ∧ (rc = none ∨ ∃ g : Addr, rc = some (.ref g))
  l1 : ∃ fo, PySem.W.findIn K (.type T) (PySem.dunder op.info.2) = some fo
  l2 : ∃ ro, PySem.W.findIn K (.type T) (dunderR op.info.2) = some ro
  sub : PySem.W.subIn K (.type T) (.ref C) = some false

def rSame (C : Addr) (sp : Sp) (E : XK) : R2 := fun x y H Q => ∃ a b dx dy fs gs, x = .ref a ∧ y = .ref b ∧ H a = some (.ins C dx fs) ∧ H b = some (.ins C dy gs) ∧ sp [.ref a, .ref b] H Q E
def rLeft (C : Addr) (T : String) (sp : Sp) (E : XK) : R2 := fun x y H Q => ∃ a dx fs, x = .ref a ∧ H a = some (.ins C dx fs) ∧ (∀ u, RelV y u → typeOf u = pure (.type T)) ∧ sp [.ref a, y] H Q E
def rCmp (K : PySem.W.Frag) (C : Addr) (sp : Sp) (E : XK) : R2 := fun x y H Q => ∃ a dx fs t, x = .ref a ∧ H a = some (.ins C dx fs) ∧ TyX K H y t ∧ PySem.W.notFirst K C t = true ∧ sp [.ref a, y] H Q E
def rOne (C : Addr) (sp : Sp) (E : XK) : V → Hp → VK → Prop := fun x H Q => ∃ a dx fs, x = .ref a ∧ H a = some (.ins C dx fs) ∧ sp [.ref a] H Q E

section
variable {X : Cx} {CX : CXT} {k : Nat} {f C : Addr} {fd : FuncData} {ps : List Str} {sp : Sp} {E : XK} {op : Operator} {cop : CmpOp} {T : String}
theorem run2 {pins : List (Addr × Obj)} {σ : L2.St} {H : Hp} {s : Shared} {Q : VK} {x y : V} {u v : Value} (F : FnOk X.prog X.w X.K X.mg X.base CX k f fd ps sp) (hr : Room k X.A) (hb : Binds X.K fd ps []) (hx : Passes CX X E)
    (I : Inv X pins σ H s) (rx : RelV x u) (ry : RelV y v) (h : sp [x, y] H Q E) : wpAny (model X.prog X.w) X.A (call (.ref f) [u, v]) (EP X pins σ Q) X.xe s :=
  run_fn (us := [u, v]) (vs := [x, y]) F hr hb .nil hx I (.cons rx (.cons ry .nil)) h
theorem opS (F : FnOk X.prog X.w X.K X.mg X.base CX k f fd ps sp) (hr : Room k X.A) (B : Bin X.K C f op) (hb : Binds X.K fd ps []) (hx : Passes CX X E) : OpR X (binaryOp op) (rSame C sp E) := by
  rintro pins s σ H x y u v Q I rx ry ⟨a, b, dx, dy, fs, gs, rfl, rfl, ha, hb', q⟩
  cases rx
  cases ry
  obtain ⟨od, J⟩ := inst I ha
  obtain ⟨od', J'⟩ := inst I hb'
  obtain ⟨m, hF⟩ := I.fr
  exact PySem.W.binop_K hF I.ok.mod.kin J J'.type B.first B.at_ B.fn (back (run2 (x := .ref a) (y := .ref b) F hr hb hx I rfl rfl q))
theorem opT (F : FnOk X.prog X.w X.K X.mg X.base CX k f fd ps sp) (hr : Room k X.A) (B : BinT X.K C f op T) (hb : Binds X.K fd ps []) (hx : Passes CX X E) : OpR X (binaryOp op) (rLeft C T sp E) := by
  rintro pins s σ H x y u v Q I rx ry ⟨a, dx, fs, rfl, ha, ty, q⟩
  cases rx
  obtain ⟨od, J⟩ := inst I ha
  obtain ⟨m, hF⟩ := I.fr
  obtain ⟨⟨b1, b2, b3⟩, ⟨rc, r1, r2⟩, ⟨fo, l1⟩, ⟨ro, l2⟩, sb⟩ := B
  exact PySem.W.ksp_binT hF I.ok.mod.kin J (ty _ ry) b1 b2 b3 r1 r2 l1 l2 sb (back (run2 (x := .ref a) F hr hb hx I rfl ry q))
theorem iopT (F : FnOk X.prog X.w X.K X.mg X.base CX k f fd ps sp) (hr : Room k X.A) (h1 : PySem.W.selfFirst X.K C = true) (h2 : Sp1 X.K C (dunderI op.info.2) f) (hb : Binds X.K fd ps []) (hx : Passes CX X E) :
    OpR X (inplaceOp op) (fun x y H Q => ∃ a dx fs, x = .ref a ∧ H a = some (.ins C dx fs) ∧ sp [.ref a, y] H Q E) := by
  rintro pins s σ H x y u v Q I rx ry ⟨a, dx, fs, rfl, ha, q⟩
  cases rx
  obtain ⟨od, J⟩ := inst I ha
  obtain ⟨m, hF⟩ := I.fr
  exact PySem.W.ksp_inplace hF I.ok.mod.kin J h1 h2.at_ h2.fn (back (run2 (x := .ref a) F hr hb hx I rfl ry q))
theorem neg (F : FnOk X.prog X.w X.K X.mg X.base CX k f fd ps sp) (hr : Room k X.A) (B : Sp1 X.K C "__neg__" f) (hb : Binds X.K fd ps []) (hx : Passes CX X E) : UnR X (unaryOp .USub) (rOne C sp E) := by
  rintro pins s σ H x u Q I rx ⟨a, dx, fs, rfl, ha, q⟩
  cases rx
  obtain ⟨od, J⟩ := inst I ha
  obtain ⟨m, hF⟩ := I.fr
  exact PySem.W.ksp_neg hF I.ok.mod.kin J B.at_ B.fn (run_fn (us := [.ref a]) (vs := [.ref a]) F hr hb .nil hx I (.cons rfl .nil) q)
theorem cmp (F : FnOk X.prog X.w X.K X.mg X.base CX k f fd ps sp) (hr : Room k X.A) (B : Sp1 X.K C (cmpInfo cop).2.1 f) (hb : Binds X.K fd ps []) (hx : Passes CX X E)
    (ho : ∀ a b, compareOp cop a b = richCompare cop a b := by intro _ _; rfl) : OpR X (compareOp cop) (rCmp X.K C sp E) := by
  rintro pins s σ H x y u v Q I rx ry ⟨a, dx, fs, t, rfl, ha, ty, nf, q⟩
  cases rx
  obtain ⟨od, J⟩ := inst I ha
  obtain ⟨m, hF⟩ := I.fr
  rw [ho]
  exact PySem.W.cmp_K hr.units0 hF I.ok.mod.kin J (typed I ry ty) nf B.at_ B.fn (back (run2 (x := .ref a) F hr hb hx I rfl ry q))
/-- o[i] by the own __getitem__ -/
theorem item (F : FnOk X.prog X.w X.K X.mg X.base CX k f fd ps sp) (hr : Room k X.A) (B : Sp1 X.K C "__getitem__" f) (hq : PySem.W.noSeq X.K C = true) (hb : Binds X.K fd ps []) (hx : Passes CX X E) :
    OpR X getItem (fun x y H Q => ∃ a dx fs, x = .ref a ∧ H a = some (.ins C dx fs) ∧ sp [.ref a, y] H Q E) := by
  rintro pins s σ H x y u v Q I rx ry ⟨a, dx, fs, rfl, ha, q⟩
  cases rx
  obtain ⟨od, J⟩ := inst I ha
  obtain ⟨m, hF⟩ := I.fr
  exact PySem.W.getItem_K hF I.ok.mod.kin J hq B.at_ B.fn (run2 (x := .ref a) F hr hb hx I rfl ry q)
/-- x in o by the own __contains__, which gives a bool -/
theorem isin (F : FnOk X.prog X.w X.K X.mg X.base CX k f fd ps sp) (hr : Room k X.A) (B : Sp1 X.K C "__contains__" f) (hb : Binds X.K fd ps []) (hx : Passes CX X E) :
    OpR X (compareOp .In) (fun x y H Q => ∃ a dx fs, y = .ref a ∧ H a = some (.ins C dx fs) ∧ sp [.ref a, x] H (fun v H' => ∃ b, v = .bl b ∧ Q (.bl b) H') E) := by
  rintro pins s σ H x y u v Q I rx ry ⟨a, dx, fs, rfl, ha, q⟩
  cases ry
  obtain ⟨od, J⟩ := inst I ha
  obtain ⟨m, hF⟩ := I.fr
  refine PySem.W.in_K hF I.ok.mod.kin J B.at_ B.fn (wpAny_mono (run2 (x := .ref a) F hr hb hx I rfl rx q) (fun r s' hq => ?_) fun _ _ e => e)
  obtain ⟨z, H', I', rz, b, rfl, q'⟩ := hq
  cases rz
  exact wpAny_truthy_bool ⟨.bl b, H', I', rfl, q'⟩
/-- truth by the own __bool__ -/
theorem truth (F : FnOk X.prog X.w X.K X.mg X.base CX k f fd ps sp) (hr : Room k X.A) (B : Sp1 X.K C "__bool__" f) (hb : Binds X.K fd ps []) (hx : Passes CX X E) :
    TruR X (fun x H Q => ∃ a dx fs, x = .ref a ∧ H a = some (.ins C dx fs) ∧ sp [.ref a] H (fun v H' => ∃ b, v = .bl b ∧ Q b H') E) := by
  rintro pins s σ H x u Q I rx ⟨a, dx, fs, rfl, ha, q⟩
  cases rx
  obtain ⟨od, J⟩ := inst I ha
  obtain ⟨m, hF⟩ := I.fr
  refine PySem.W.truthy_K hF I.ok.mod.kin J B.at_ B.fn (wpAny_mono (run_fn (us := [.ref a]) (vs := [.ref a]) F hr hb .nil hx I (.cons rfl .nil) q) (fun r s' hq => ?_) fun _ _ e => e)
  obtain ⟨z, H', I', rz, b, rfl, q'⟩ := hq
  cases rz
  exact ⟨H', I', q'⟩
end
end Own
/-! ## int op own: the reflected operator; != by the inherited rule over the own ==; len; a call of an instance -/
namespace Own
open PySem PySem.Spec PyProof.Rows
section
variable {prog : Program} {w : World} {A : Around} {E : Value → Shared → Prop} {s : Shared} {K : PySem.W.Frag} {x C dx f : Addr} {od : Option Obj}
theorem decl_add {i : Int} {t : Tok} {Q : Shared → Prop} (h : s.heap.get? x = some (PySem.W.instObj C dx)) (hq : Q s) :
    wpAny (model prog w) A (Builtin.«int.__add__» ⟨[.int i t, .ref x], []⟩) (fun fin s' => ∃ v, fin = .done (.ret v) ∧ v = .notImplemented ∧ Q s') E s := by
  obtain ⟨hp, g, d, tk, os⟩ := s
  wp_walk using wpAny_load h
  exact ⟨_, rfl, rfl, hq⟩
theorem decl_sub {i : Int} {t : Tok} {Q : Shared → Prop} (h : s.heap.get? x = some (PySem.W.instObj C dx)) (hq : Q s) :
    wpAny (model prog w) A (Builtin.«int.__sub__» ⟨[.int i t, .ref x], []⟩) (fun fin s' => ∃ v, fin = .done (.ret v) ∧ v = .notImplemented ∧ Q s') E s := by
  obtain ⟨hp, g, d, tk, os⟩ := s
  wp_walk using wpAny_load h
  exact ⟨_, rfl, rfl, hq⟩
theorem decl_mul {i : Int} {t : Tok} {Q : Shared → Prop} (h : s.heap.get? x = some (PySem.W.instObj C dx)) (hq : Q s) :
    wpAny (model prog w) A (Builtin.«int.__mul__» ⟨[.int i t, .ref x], []⟩) (fun fin s' => ∃ v, fin = .done (.ret v) ∧ v = .notImplemented ∧ Q s') E s := by
  obtain ⟨hp, g, d, tk, os⟩ := s
  wp_walk using wpAny_load h
  exact ⟨_, rfl, rfl, hq⟩
end
end Own
namespace Own
open PySem PySem.Spec PyProof.Rows
section
variable {prog : Program} {w : World} {A : Around} {E : Value → Shared → Prop} {s : Shared} {K : PySem.W.Frag} {x C dx f f0 : Addr} {od : Option Obj} {op : Operator} {id : String}
/-- an int declines an operator beside an instance, then the instance's reflected one is asked -/
theorem binR {i : Int} {t : Tok} {Q : Value → Shared → Prop} (KX : K.In s.heap) (I : PySem.W.InstAt s.heap x (PySem.W.instObj C dx) C od) (hc : PySem.W.selfFirst K C = true)
    (h0 : PySem.W.findIn K (.ref C) (PySem.dunder op.info.2) = some (some (.ref f0))) (h1 : PySem.W.findIn K (.ref C) (dunderR op.info.2) = some (some (.ref f))) (hf : PySem.W.isFn K (.ref f) = true)
    (hsub : PySem.W.subIn K (.ref C) (.type "int") = some false) (hfill : fillsNumberSlot (.type "int") op.info.2 = pure true) (slot : Slot "int" (PySem.dunder op.info.2) id)
    (decl : wpAny (model prog w) A (call (.builtin id) [.int i t, .ref x]) (fun v s' => v = .notImplemented ∧ s'.heap = s.heap ∧ s'.gens = s.gens ∧ s'.drawn = s.drawn ∧ s'.os = s.os ∧ s'.toks = s.toks) E s)
    (h : wpAny (model prog w) A (call (.ref f) [.ref x, .int i t]) (PySem.W.CmpBack Q) E s) : wpAny (model prog w) A (binaryOp op (.int i t) (.ref x)) Q E s := by
  obtain ⟨cd, rest, hcd, hm⟩ := PySem.W.ksp_first hc
  rcases hi : op.info with ⟨sym, nm⟩
  rw [hi] at h0 h1 hfill slot
  dsimp only at h0 h1 hfill slot
  have two := PySem.W.ksp_try KX I h1 hf h
  obtain ⟨hh, g, d, tt, os⟩ := s
  have L1 : PySem.W.Looks (model prog w) hh (typeOf (.ref x)) (.ref C) := I.type
  have L3 : PySem.W.Looks (model prog w) hh (fillsNumberSlot (.ref C) nm) true := PySem.W.fills_K KX hcd hm h0
  have L5 : PySem.W.Looks (model prog w) hh (isSubtype (.ref C) (.type "int")) false := PySem.W.looks_subIn KX hsub
  have hne : (Value.type "int" == Value.ref C) = false := Bool.eq_false_iff.mpr fun q => by cases beq_iff_eq.mp q
  have hpy : numberSlotInPython (.type "int") nm = pure false := rfl
  have one : wpAny (model prog w) A (tryMethod (.int i t) (PySem.dunder nm) (.ref x)) (fun r s' => r = none ∧ s'.heap = hh ∧ s'.gens = g ∧ s'.drawn = d ∧ s'.os = os ∧ s'.toks = tt) E ⟨hh, g, d, tt, os⟩ :=
    wpAny_tryMethod_declines (T := "int") (typeIs_int _ i t) slot (wpAny_mono decl (fun v s' q => ⟨q.1, rfl, q.2⟩) fun _ _ e => e)
  simp only [binaryOp, hi]
  refine wpAny_holding (wpAny_bind ?_)
  unfold binaryOp1
  refine wpAny_bind (wpAny_typeOf (typeIs_int _ i t) (wpAny_bind (L1.at (wpAny_bind (wpAny_of_eq hfill ?_)))))
  simp only [hne, Bool.false_eq_true, if_false]
  refine wpAny_bind (L3.at ?_)
  simp only [Bool.and_self, if_true]
  refine wpAny_bind (L5.at ?_)
  simp only [Bool.false_eq_true, if_false, pure_bind, Bool.not_false, Bool.and_self, if_true, hpy]
  refine wpAny_bind (wpAny_mono one (fun r s' q => ?_) fun _ _ e => e)
  obtain ⟨h1, g1, d1, t1, o1⟩ := s'
  obtain ⟨rfl, q1, q2, q3, q4, q5⟩ := q
  dsimp only at q1 q2 q3 q4 q5
  subst q1 q2 q3 q4 q5
  dsimp only
  refine wpAny_bind (wpAny_mono two (fun r s' q => ?_) fun _ _ e => e)
  obtain ⟨v, rfl, q⟩ := q
  exact wpAny_bind (wpAny_rule (wpAny_pure (wpAny_pure q)))
end
end Own
namespace Own
open PySem PySem.Spec PyProof.Rows
theorem slot_ne : Slot "object" "__ne__" "object.__ne__" :=
  .of (T := "object") (name := "__ne__") (owner := "object") (n := "__ne__") (by rw [typeLookup_type, builtinLookup_eq_fast]; kernel_rfl) (by decide +kernel) (by decide +kernel) (by decide +kernel)
    (.inl (by decide +kernel)) (by rw [isSubtype_type]; kernel_rfl)
section
variable {prog : Program} {w : World} {A : Around} {E : Value → Shared → Prop} {s : Shared} {K : PySem.W.Frag} {x C dx f : Addr} {od : Option Obj} {b tb : Value}
theorem check_ne {M : Model} {Q : Unit → Shared → Prop} (I : PySem.W.InstAt s.heap x (PySem.W.instObj C dx) C od) (KX : K.In s.heap) (ho : PySem.W.subIn K (.ref C) (.type "object") = some true) (h : Q () s) :
    wpAny M A (checkBuiltinCall "object.__ne__" ⟨[.ref x, b], []⟩) Q E s := by
  have ha : argsOk "object.__ne__" ⟨[.ref x, b], []⟩ := by unfold argsOk; kernel_rfl
  have L : PySem.W.Looks M s.heap (isSubtype (.ref C) (.type "object")) true := PySem.W.looks_subIn KX ho
  have at_ := I.at_
  obtain ⟨hp, g, d, t, os⟩ := s
  simp only [checkBuiltinCall, F.cmpKind_ne, F.cmpSplit_ne]
  refine wpAny_bind ?_
  unfold isInstance
  repeat (first | (with_reducible refine wpAny_loadPart_at at_ ?_) | (with_reducible refine L.at ?_) | wp_step)
  exact h
/-- != of an instance whose class has an own == alone -/
theorem ne_K {Q : Value → Shared → Prop} (hu : A.units + 1 < cLine) (KX : K.In s.heap) (I : PySem.W.InstAt s.heap x (PySem.W.instObj C dx) C od) (hb : PySem.W.Looks (model prog w) s.heap (typeOf b) tb) (hn : PySem.W.notFirst K C tb = true)
    (h0 : PySem.W.findIn K (.ref C) "__ne__" = some (some (.builtin "object.__ne__"))) (h1 : PySem.W.findIn K (.ref C) "__eq__" = some (some (.ref f))) (hf : PySem.W.isFn K (.ref f) = true) (ho : PySem.W.subIn K (.ref C) (.type "object") = some true)
    (h : wpAny (model prog w) A.in1 (call (.ref f) [.ref x, b]) (fun v s' => ∃ c, v = .bool c ∧ Q (.bool (!c)) s') E s) : wpAny (model prog w) A (richCompare .NotEq (.ref x) b) Q E s := by
  have eqc : wpAny (model prog w) A.in1 (callSpecialIfBound? (.ref x) (Str.ofString "__eq__") [b]) (fun r s' => ∃ c, r = some (.bool c) ∧ Q (.bool (!c)) s') E s :=
    PySem.W.ifBound_K KX I h1 hf (wpAny_mono h (fun v s' ⟨c, e, q⟩ => ⟨c, by rw [e], q⟩) fun _ _ e => e)
  have body : wpAny (model prog w) A.in1 (Builtin.«object.__ne__» ⟨[.ref x, b], []⟩) (fun fin s' => ∃ v, fin = .done (.ret v) ∧ ∃ c, v = .bool (!c) ∧ Q (.bool (!c)) s') E s := by
    obtain ⟨hp, g, d, t, os⟩ := s
    unfold Builtin.«object.__ne__»
    repeat (first
      | with_reducible refine wpAny_cRoomFor hu ?_
      | (refine wpAny_bind (m := callSpecialIfBound? (.ref x) (Str.ofString "__eq__") [b]) (wpAny_mono eqc (fun r s' hr => ?_) fun _ _ e => e))
      | wp_step)
    obtain ⟨c, rfl, q⟩ := hr
    repeat (first
      | exact ⟨_, rfl, c, rfl, q⟩
      | exact wpAny_pure ⟨_, rfl, c, rfl, q⟩
      | (refine wpAny_bind (m := truthy (.bool _)) (wpAny_truthy_bool ?_))
      | wp_step)
  have one : wpAny (model prog w) A (tryCompare (.ref x) (Str.ofString "__ne__") b) (fun r s' => ∃ c, r = some (.bool (!c)) ∧ Q (.bool (!c)) s') E s := by
    unfold tryCompare
    refine wpAny_bind ?_
    simp only [callSpecialIfBound?, bindSpecialIfBound?]
    refine wpAny_holding (wpAny_bind (wpAny_bind (wpAny_bind (I.type.here ((PySem.W.looks_findIn KX h0).here ?_)))))
    have last : wpAny (model prog w) A (call (.builtin "object.__ne__") ([.ref x] ++ [b]) >>= fun v => pure (some v)) (fun a s' => wpAny (model prog w) A (match a with | some .notImplemented | none => pure none | some v => pure (some v)) (fun r s' => ∃ c, r = some (.bool (!c)) ∧ Q (.bool (!c)) s') E s') E s := by
      refine wpAny_bind (wpAny_call (codeAny_call_builtin slot_ne.plain F.cmpEntry_ne (check_ne I KX ho (wpAny_mono body (fun fin s' hv => ?_) fun _ _ e => e))))
      obtain ⟨v, rfl, c, rfl, q⟩ := hv
      exact wpAny_pure (wpAny_pure ⟨c, rfl, q⟩)
    refine wpAny_bind (wpAny_askSetting (wpAny_ite ?_))
    simp only [slot_ne.bind]
    split
    · exact wpAny_bind (wpAny_pure (wpAny_pure last))
    · exact wpAny_tryCatch (wpAny_bind (wpAny_pure (wpAny_pure last)))
  unfold richCompare
  simp only [PySem.oneThing_ref]
  refine wpAny_holding (wpAny_bind (wpAny_cRoomFor (Nat.lt_of_succ_lt hu) ?_))
  rw [cmpInfo_NotEq]
  dsimp only
  refine wpAny_bind (I.type.here (wpAny_bind (hb.here ?_)))
  have tail : wpAny (model prog w) A (tryCompare (.ref x) (Str.ofString "__ne__") b) (fun r s' => ∃ v, r = some v ∧ Q v s') E s :=
    wpAny_mono one (fun r s' ⟨c, e, q⟩ => ⟨_, e, q⟩) fun _ _ e => e
  split
  · rename_i q
    have e : PySem.W.subIn K tb (.ref C) = some false := by
      rcases Bool.or_eq_true_iff.mp hn with e | e
      · rw [beq_iff_eq.mp e] at q; simp at q
      · exact beq_iff_eq.mp e
    refine wpAny_bind ((PySem.W.looks_subIn KX e).here ?_)
    simp only [Bool.false_eq_true, if_false]
    refine wpAny_bind (wpAny_mono tail (fun r s' z => ?_) fun _ _ e => e)
    obtain ⟨v, rfl, hq⟩ := z
    exact wpAny_pure hq
  · refine wpAny_bind (wpAny_pure ?_)
    simp only [Bool.false_eq_true, if_false]
    refine wpAny_bind (wpAny_mono tail (fun r s' z => ?_) fun _ _ e => e)
    obtain ⟨v, rfl, hq⟩ := z
    exact wpAny_pure hq
end
end Own
namespace Own
open PySem PySem.Spec PyProof.Rows L2
section
variable {X : Cx} {CX : CXT} {k : Nat} {f f0 C : Addr} {fd : FuncData} {ps : List Str} {sp : Sp} {E : XK} {op : Operator}
/-- a call one step further in -/
theorem runIn {pins : List (Addr × Obj)} {σ : L2.St} {H : Hp} {s : Shared} {Q : VK} {us : List Value} {vs : List V} (F : FnOk X.prog X.w X.K X.mg X.base CX k f fd ps sp) (hr : Room (k + 1) X.A) (hb : Binds X.K fd ps []) (hx : Passes CX X E)
    (I : Inv X pins σ H s) (r : Vals vs us) (h : sp vs H Q E) : wpAny (model X.prog X.w) X.A.in1 (PySem.call (.ref f) us) (EP X pins σ Q) X.xe s := by
  have hl : us.length = ps.length := by rw [← r.length]; exact F.len _ _ _ _ h
  have hb' := hb s us I.kIn (by simpa using hl)
  rw [List.append_nil] at hb'
  refine wpAny_call (codeAny_mono (F.run X.A.in1 X.stack s H ⟨us, []⟩ us vs Q E hr.in1 I.env0.in1 hb' r h) fun r s' hq => ?_)
  cases r with
  | error e => exact hx pins σ H s e s' I hq
  | ok fl =>
    cases fl with
    | ret u => exact I.after hq
    | next => exact False.elim hq
    | brk => exact False.elim hq
    | cont => exact False.elim hq
structure BinR (K : PySem.W.Frag) (C f : Addr) (op : Operator) : Prop where
  first : PySem.W.selfFirst K C = true
  l : ∃ f0 : Addr, PySem.W.findIn K (.ref C) (PySem.dunder op.info.2) = some (some (.ref f0))
  at_ : PySem.W.findIn K (.ref C) (dunderR op.info.2) = some (some (.ref f))
  fn : PySem.W.isFn K (.ref f) = true
  sub : PySem.W.subIn K (.ref C) (.type "int") = some false
def rRight (C : Addr) (sp : Sp) (E : XK) : R2 := fun x y H Q => ∃ i a dx fs, x = .int i ∧ y = .ref a ∧ H a = some (.ins C dx fs) ∧ sp [.ref a, .int i] H Q E
theorem opR_of {id : String} {B : Builtin} (hfill : fillsNumberSlot (.type "int") op.info.2 = pure true) (slot : Slot "int" (PySem.dunder op.info.2) id) (entry : entryFor table id = some B) (args : ∀ a b : Value, argsOk id ⟨[a, b], []⟩)
    (decl : ∀ {prog : Program} {w : World} {A : Around} {E : Value → Shared → Prop} {s : Shared} {x C dx : Addr} {i : Int} {t : Tok} {Q : Shared → Prop}, s.heap.get? x = some (PySem.W.instObj C dx) → Q s →
      wpAny (model prog w) A (B ⟨[.int i t, .ref x], []⟩) (fun fin s' => ∃ v, fin = .done (.ret v) ∧ v = .notImplemented ∧ Q s') E s)
    (F : FnOk X.prog X.w X.K X.mg X.base CX k f fd ps sp) (hr : Room k X.A) (Z : BinR X.K C f op) (hb : Binds X.K fd ps []) (hx : Passes CX X E) : OpR X (binaryOp op) (rRight C sp E) := by
  rintro pins s σ H x y u v Q I rx ry ⟨i, a, dx, fs, rfl, rfl, ha, q⟩
  obtain ⟨t, rfl⟩ := (show ∃ t, u = Value.int i t from rx)
  cases ry
  obtain ⟨od, J⟩ := inst I ha
  obtain ⟨z1, ⟨f0, z2⟩, z3, z4, z5⟩ := Z
  exact binR I.kIn J z1 z2 z3 z4 z5 hfill slot (wpAny_call_entry slot (typeIs_int s i t) entry (wpAny_mono (decl (Q := fun s' => s'.heap = s.heap ∧ s'.gens = s.gens ∧ s'.drawn = s.drawn ∧ s'.os = s.os ∧ s'.toks = s.toks) J.at_ ⟨rfl, rfl, rfl, rfl, rfl⟩) (fun fin s' ⟨v, e, q⟩ => ⟨v, e, q⟩) fun _ _ e => e) (args _ _))
    (back (run2 (x := .ref a) (y := .int i) F hr hb hx I rfl ⟨t, rfl⟩ q))
theorem opRadd (F : FnOk X.prog X.w X.K X.mg X.base CX k f fd ps sp) (hr : Room k X.A) (Z : BinR X.K C f .Add) (hb : Binds X.K fd ps []) (hx : Passes CX X E) : OpR X (binaryOp .Add) (rRight C sp E) :=
  opR_of PySem.F.fills_int_add PySem.F.slot_int_add PySem.F.entry_int_add PySem.F.args_int_add_2 decl_add F hr Z hb hx
theorem opRsub (F : FnOk X.prog X.w X.K X.mg X.base CX k f fd ps sp) (hr : Room k X.A) (Z : BinR X.K C f .Sub) (hb : Binds X.K fd ps []) (hx : Passes CX X E) : OpR X (binaryOp .Sub) (rRight C sp E) :=
  opR_of PySem.F.fills_int_sub PySem.F.slot_int_sub PySem.F.entry_int_sub PySem.F.args_int_sub_2 decl_sub F hr Z hb hx
theorem opRmul (F : FnOk X.prog X.w X.K X.mg X.base CX k f fd ps sp) (hr : Room k X.A) (Z : BinR X.K C f .Mult) (hb : Binds X.K fd ps []) (hx : Passes CX X E) : OpR X (binaryOp .Mult) (rRight C sp E) :=
  opR_of PySem.F.fills_int_mul PySem.F.slot_int_mul PySem.F.entry_int_mul PySem.F.args_int_mul_2 decl_mul F hr Z hb hx
structure Ne (K : PySem.W.Frag) (C f : Addr) : Prop where
  ne : PySem.W.findIn K (.ref C) "__ne__" = some (some (.builtin "object.__ne__"))
  eq : PySem.W.findIn K (.ref C) "__eq__" = some (some (.ref f))
  fn : PySem.W.isFn K (.ref f) = true
  ob : PySem.W.subIn K (.ref C) (.type "object") = some true
def rNeOwn (K : PySem.W.Frag) (C : Addr) (sp : Sp) (E : XK) : R2 := fun x y H Q => ∃ a dx fs t, x = .ref a ∧ H a = some (.ins C dx fs) ∧ TyX K H y t ∧ PySem.W.notFirst K C t = true ∧ sp [.ref a, y] H (fun v H' => ∃ b, v = .bl b ∧ Q (.bl (!b)) H') E
theorem ne (F : FnOk X.prog X.w X.K X.mg X.base CX k f fd ps sp) (hr : Room (k + 1) X.A) (Z : Ne X.K C f) (hb : Binds X.K fd ps []) (hx : Passes CX X E) : OpR X (compareOp .NotEq) (rNeOwn X.K C sp E) := by
  rintro pins s σ H x y u v Q I rx ry ⟨a, dx, fs, t, rfl, ha, ty, nf, q⟩
  cases rx
  obtain ⟨od, J⟩ := inst I ha
  have hu : X.A.units + 1 < cLine := hu_of hr
  exact ne_K hu I.kIn J (typed I ry ty) nf Z.ne Z.eq Z.fn Z.ob (wpAny_mono (runIn (us := [.ref a, v]) (vs := [.ref a, y]) F hr hb hx I (.cons rfl (.cons ry .nil)) q) (fun r s' hq => by
    obtain ⟨z, H', I', rz, b, rfl, q'⟩ := hq
    cases rz
    exact ⟨b, rfl, .bl (!b), H', I', rfl, q'⟩) fun _ _ e => e)
/-- len(o) by the own __len__ -/
theorem len (F : FnOk X.prog X.w X.K X.mg X.base CX k f fd ps sp) (hr : Room (k + 1) X.A) (B : Sp1 X.K C "__len__" f) (hb : Binds X.K fd ps []) (hx : Passes CX X E) :
    CallR X (.builtin "len") (fun xs H Q => ∃ a dx fs, xs = [.ref a] ∧ H a = some (.ins C dx fs) ∧ sp [.ref a] H (fun v H' => ∃ n, v = .int n ∧ 0 ≤ n ∧ n < 2 ^ 63 ∧ Q (.int n) H') E) := by
  rintro pins s σ H xs us Q I rs ⟨a, dx, fs, rfl, ha, q⟩
  cases rs with
  | cons r rest =>
    cases rest
    cases r
    obtain ⟨od, J⟩ := inst I ha
    obtain ⟨m, hF⟩ := I.fr
    refine PySem.W.len_K hF I.ok.mod.kin J B.at_ B.fn (wpAny_mono (runIn (us := [.ref a]) (vs := [.ref a]) F hr hb hx I (.cons rfl .nil) q) (fun r s' hq => ?_) fun _ _ e => e)
    obtain ⟨z, H', I', rz, n, rfl, h0, h1, q'⟩ := hq
    obtain ⟨t, rfl⟩ := (show ∃ t, r = Value.int n t from rz)
    exact ⟨⟨h0, h1⟩, .int n, H', I'.tok _, ⟨_, rfl⟩, q'⟩
end
theorem fnR_of {P : Program} {w : World} {K : PySem.W.Frag} {mg : Str → Option Value} {base : Heap} {CX : CXT} {k : Nat} {f : Addr} {fd : FuncData} {ps : List Str} {sp : Sp} (F : FnOk P w K mg base CX k f fd ps sp) (hb : Binds K fd ps []) : FnR P w K mg base CX k f sp := by
  intro A outer s H us vs Q E hr e0 r h
  have KX : K.In s.heap := e0.mod.kin.keeps fun b o e => (e0.bs b o e).1
  have hl : us.length = ps.length := by rw [← r.length]; exact F.len _ _ _ _ h
  have hb' := hb s us KX (by simpa using hl)
  rw [List.append_nil] at hb'
  exact F.run A outer s H ⟨us, []⟩ us vs Q E hr e0 hb' r h
def rIop (C : Addr) (sp : Sp) (E : XK) : R2 := fun x y H Q => ∃ a dx fs, x = .ref a ∧ H a = some (.ins C dx fs) ∧ sp [.ref a, y] H Q E
theorem pip {X : Cx} {C : Addr} {sp : Sp} {E : XK} {op : Operator} (h : OpR X (inplaceOp op) (fun x y H Q => ∃ a dx fs, x = .ref a ∧ H a = some (.ins C dx fs) ∧ sp [.ref a, y] H Q E)) : PIp X op (rIop C sp E) :=
  fun pins s σ H x y v u Q I rx ry q => h pins s σ H x y v u Q I rx ry q
theorem iop2 {H : Hp} {Q : VK} {C a dx : Addr} {sp : Sp} {E : XK} {fs : List (Str × V)} {y : V} (ha : H a = some (.ins C dx fs)) (h : sp [.ref a, y] H Q E) : rIop C sp E (.ref a) y H Q := ⟨a, dx, fs, rfl, ha, h⟩
/-- f(e, ..), f an expression that gives an instance of C: the reading speaks of the heap alone -/
def tCallI (C : Addr) (sp : Sp) (E : XK) (tf : TE) (t : TA) : TE := fun σ H Q => tf σ H fun y H1 => ∃ a, y = V.ref a ∧ t σ H1 fun vs H2 => (∃ dx fs, H2 a = some (.ins C dx fs)) ∧ sp (V.ref a :: vs) H2 Q E
theorem pe_callI {X : Cx} {CX : CXT} {k : Nat} {g C : Addr} {sp : Sp} {E : XK} {fe e : Expr} {es : List Expr} {tf : TE} {t : TA} {pos : Pos} (hf : PE X fe tf) (c : StX.CallO X.K C g) (F : FnR X.prog X.w X.K X.mg X.base CX k g sp) (hr : Room k X.A) (hx : Passes CX X E) (ha : PA X (e :: es) t)
    (ht : eval (.Call fe (e :: es) [] pos) X.env = (do callWith pos (← eval fe X.env) [] (backTo pos (starEach (e :: es) X.env)) (backToKw pos (keywordEach [] X.env))) := by rfl)
    (he : starEach (e :: es) X.env = (false, eval e X.env) :: starEach es X.env := by rfl) (hpl : (backTo pos (starEach es X.env)).any (·.1) = false := by rfl) : PE X (.Call fe (e :: es) [] pos) (tCallI C sp E tf t) := by
  refine ⟨fun pins s σ H Q I h => Call_ (thn (hf.run pins s σ H _ I h) fun u s1 z => ?_) ht⟩
  obtain ⟨y, H1, I1, ry, a, rfl, q⟩ := z
  cases ry
  refine StX.callO_with (thn (ha.run pos pins s1 σ H1 _ I1 q) fun us s2 z2 => ?_) he hpl
  obtain ⟨vs, H2, I2, r, hi, q2⟩ := z2
  obtain ⟨od, J⟩ : ∃ od, PySem.W.InstAt s2.heap a (PySem.W.instObj C hi.choose) C od := inst I2 hi.choose_spec.choose_spec
  exact ⟨⟨C, _, od, J, rfl⟩, StX.run_callO c F hr hx I2 (.inr hi) r q2⟩
section
variable {σ : L2.St} {H : Hp} {Q : VK} {C : Addr} {sp : Sp} {E : XK}
theorem opS2 {a b dx dy : Addr} {fs gs : List (Str × V)} (ha : H a = some (.ins C dx fs)) (hb : H b = some (.ins C dy gs)) (h : sp [.ref a, .ref b] H Q E) : rSame C sp E (.ref a) (.ref b) H Q := ⟨a, b, dx, dy, fs, gs, rfl, rfl, ha, hb, h⟩
theorem opT2 {a dx : Addr} {fs : List (Str × V)} {T : String} {y : V} (ha : H a = some (.ins C dx fs)) (ty : ∀ u, RelV y u → typeOf u = pure (.type T)) (h : sp [.ref a, y] H Q E) : rLeft C T sp E (.ref a) y H Q := ⟨a, dx, fs, rfl, ha, ty, h⟩
theorem opR2 {a dx : Addr} {fs : List (Str × V)} {i : Int} (ha : H a = some (.ins C dx fs)) (h : sp [.ref a, .int i] H Q E) : rRight C sp E (.int i) (.ref a) H Q := ⟨i, a, dx, fs, rfl, rfl, ha, h⟩
theorem neg2 {a dx : Addr} {fs : List (Str × V)} (ha : H a = some (.ins C dx fs)) (h : sp [.ref a] H Q E) : rOne C sp E (.ref a) H Q := ⟨a, dx, fs, rfl, ha, h⟩
theorem cmp2 {K : PySem.W.Frag} {a dx : Addr} {fs : List (Str × V)} {y : V} {t : Value} (ha : H a = some (.ins C dx fs)) (ty : TyX K H y t) (nf : PySem.W.notFirst K C t = true) (h : sp [.ref a, y] H Q E) : rCmp K C sp E (.ref a) y H Q := ⟨a, dx, fs, t, rfl, ha, ty, nf, h⟩
theorem ne2 {K : PySem.W.Frag} {a dx : Addr} {fs : List (Str × V)} {y : V} {t : Value} (ha : H a = some (.ins C dx fs)) (ty : TyX K H y t) (nf : PySem.W.notFirst K C t = true) (h : sp [.ref a, y] H (fun v H' => ∃ b, v = .bl b ∧ Q (.bl (!b)) H') E) : rNeOwn K C sp E (.ref a) y H Q := ⟨a, dx, fs, t, rfl, ha, ty, nf, h⟩
theorem callI {tf : TE} {t : TA} (h : tf σ H fun y H1 => ∃ a, y = V.ref a ∧ t σ H1 fun vs H2 => (∃ dx fs, H2 a = some (.ins C dx fs)) ∧ sp (V.ref a :: vs) H2 Q E) : tCallI C sp E tf t σ H Q := h
theorem ty_int {i : Int} : ∀ u, RelV (.int i) u → typeOf u = pure (.type "int") := by
  rintro u ⟨t, rfl⟩
  rfl
end
end Own
/-! ## lists made of lists, and what == says of ints -/
namespace Rd
open PySem PySem.Spec PyProof.Rows L2
theorem lc {wi : TI} {g : TG} {tt : TT} {te : TE} {vs : List Nat} {σ : L2.St} {H : Hp} {Q : VK} (h : wi σ H fun J H1 => ∀ D, H1 D = none → ∃ W : Nat → Nat → Hp → Prop, (∃ m, W 0 m (upd H1 D (.lst []))) ∧ ∀ i m H, W i m H →
    (J.stop i H ∧ Q (.ref D) H) ∨ (J.go i H ∧ ∃ Nx : Hp → Prop, (∀ H', Nx H' → ∃ m', m' < m ∧ W (i + 1) m' H') ∧ ∀ x H', J.yld i H x H' → g x (wipe σ vs) H' fun σ2 H2 => wipe σ2 vs = wipe σ vs ∧ tt σ2 H2 fun b H3 =>
      if b = true then te σ2 H3 fun y H4 => ∃ acc, H4 D = some (.lst acc) ∧ acc.length < sizeLine ∧ Nx (upd H4 D (.lst (acc ++ [y]))) else Nx H3)) : tLc wi g tt te vs σ H Q := h
theorem il {K : PySem.W.Frag} {tl : TE} {σ : L2.St} {H : Hp} {R : It → Hp → Prop} (h : tl σ H fun x H1 => ∃ a, x = .ref a ∧ (∃ xs, SqL K H1 a xs) ∧ R (Itl K a) H1) : iList K tl σ H R := h
theorem same_upd {H H' : Hp} {D : Addr} {o : HO} (hD : H D = none) (S : Same H H') : Same H (upd H' D o) := fun b u e => by
  rw [upd_ne (ne_of_none e hD)]
  exact S b u e
/-- [e for x in l]: the items' images, where e makes the image and leaves what was tracked -/
theorem lcMap {α : Type} {items : List α} {inj res : α → V} {K : PySem.W.Frag} {a : Addr} {i : Nat} {te : TE} {vs : List Nat} {σ : L2.St} {H : Hp} {Q : VK} (hs : SqL K H a (items.map inj)) (hn : items.length ≤ 1000)
    (hw : ∀ x, wipe ((wipe σ vs).set i (some x)) vs = wipe σ vs)
    (elem : ∀ x ∈ items, ∀ H', Same H H' → ∀ R : VK, (∀ H'', Same H' H'' → R (res x) H'') → te ((wipe σ vs).set i (some (inj x))) H' R)
    (k : ∀ (p : Addr) (H' : Hp), H p = none → Same H H' → H' p = some (.lst (items.map res)) → Q (.ref p) H') :
    (∃ xs, SqL K H a xs) ∧ ∀ D, H D = none → ∃ W : Nat → Nat → Hp → Prop, (∃ m, W 0 m (upd H D (.lst []))) ∧ ∀ t m H, W t m H →
      ((Itl K a).stop t H ∧ Q (.ref D) H) ∨ ((Itl K a).go t H ∧ ∃ Nx : Hp → Prop, (∀ H', Nx H' → ∃ m', m' < m ∧ W (t + 1) m' H') ∧ ∀ x H', (Itl K a).yld t H x H' → (gName i) x (wipe σ vs) H' fun σ2 H2 => wipe σ2 vs = wipe σ vs ∧ tYes σ2 H2 fun b H3 =>
        if b = true then te σ2 H3 fun y H4 => ∃ acc, H4 D = some (.lst acc) ∧ acc.length < sizeLine ∧ Nx (upd H4 D (.lst (acc ++ [y]))) else Nx H3) := by
  refine ⟨⟨_, hs⟩, fun D hD => lc_list (xs := items.map inj) (fun t H' => Same H H' ∧ H' D = some (.lst ((items.take t).map res))) ⟨same_upd hD (Same.refl _), upd_same⟩ (fun t H' _ p => p.1.seq hs) (fun t x H' hx p => ?_) (fun H' p => ?_)⟩
  · obtain ⟨S, hl⟩ := p
    rw [List.getElem?_map] at hx
    cases e : items[t]? with
    | none => rw [e] at hx; cases hx
    | some y =>
      rw [e] at hx
      cases hx
      have hy : y ∈ items := List.mem_of_getElem? e
      have ht : t < items.length := (List.getElem?_eq_some_iff.mp e).1
      refine ⟨hw _, iteT (B := Same H H' ∧ H' D = some (.lst ((items.take (t + 1)).map res))) rfl (elem y hy H' S _ fun H'' S' => ⟨_, S' _ _ hl, ?_, ?_, ?_⟩)⟩
      · rw [List.length_map, List.length_take]
        exact small1000 (by omega)
      · exact same_upd hD (S.trans S')
      · rw [upd_same, List.take_add_one, e]
        simp
  · obtain ⟨S, hl⟩ := p
    rw [List.length_map, List.take_length] at hl
    exact k D H' hD S hl
theorem lcMapI {ns : List Int} {g : Int → Int} {K : PySem.W.Frag} {a : Addr} {i : Nat} {te : TE} {vs : List Nat} {σ : L2.St} {H : Hp} {Q : VK} (hs : SqL K H a (ns.map V.int)) (hn : ns.length ≤ 1000)
    (hw : ∀ x, wipe ((wipe σ vs).set i (some x)) vs = wipe σ vs)
    (elem : ∀ x ∈ ns, ∀ H', Same H H' → ∀ R : VK, (∀ H'', Same H' H'' → R (.int (g x)) H'') → te ((wipe σ vs).set i (some (.int x))) H' R)
    (k : ∀ (p : Addr) (H' : Hp), H p = none → Same H H' → H' p = some (.lst ((ns.map g).map V.int)) → Q (.ref p) H') :
    (∃ xs, SqL K H a xs) ∧ ∀ D, H D = none → ∃ W : Nat → Nat → Hp → Prop, (∃ m, W 0 m (upd H D (.lst []))) ∧ ∀ t m H, W t m H →
      ((Itl K a).stop t H ∧ Q (.ref D) H) ∨ ((Itl K a).go t H ∧ ∃ Nx : Hp → Prop, (∀ H', Nx H' → ∃ m', m' < m ∧ W (t + 1) m' H') ∧ ∀ x H', (Itl K a).yld t H x H' → (gName i) x (wipe σ vs) H' fun σ2 H2 => wipe σ2 vs = wipe σ vs ∧ tYes σ2 H2 fun b H3 =>
        if b = true then te σ2 H3 fun y H4 => ∃ acc, H4 D = some (.lst acc) ∧ acc.length < sizeLine ∧ Nx (upd H4 D (.lst (acc ++ [y]))) else Nx H3) :=
  lcMap (inj := V.int) (res := fun x => .int (g x)) hs hn hw elem fun p H' hp S h => k p H' hp S (by rw [List.map_map]; exact h)
theorem lcVarI {ns : List Int} {g : Int → Int} {K : PySem.W.Frag} {a : Addr} {i j : Nat} {te : TE} {vs : List Nat} {σ : L2.St} {H : Hp} {Q : VK} (ej : σ[j]? = some (some (.ref a))) (hs : SqL K H a (ns.map V.int)) (hn : ns.length ≤ 1000)
    (hw : ∀ x, wipe ((wipe σ vs).set i (some x)) vs = wipe σ vs)
    (elem : ∀ x ∈ ns, ∀ H', Same H H' → ∀ R : VK, (∀ H'', Same H' H'' → R (.int (g x)) H'') → te ((wipe σ vs).set i (some (.int x))) H' R)
    (k : ∀ (p : Addr) (H' : Hp), H p = none → Same H H' → H' p = some (.lst ((ns.map g).map V.int)) → Q (.ref p) H') : tLc (iList K (tVar j)) (gName i) tYes te vs σ H Q :=
  lc (il ⟨_, ej, _, rfl, lcMapI hs hn hw elem k⟩)
/-- [e for x in l if t] where t never holds: a new empty list -/
theorem lcNone {items : List V} {K : PySem.W.Frag} {a : Addr} {i j : Nat} {te : TE} {tt : TT} {vs : List Nat} {σ : L2.St} {H : Hp} {Q : VK} (ej : σ[j]? = some (some (.ref a))) (hs : SqL K H a items)
    (hw : ∀ x, wipe ((wipe σ vs).set i (some x)) vs = wipe σ vs)
    (test : ∀ x ∈ items, ∀ H', Same H H' → ∀ R : Bool → Hp → Prop, (∀ H'', Same H' H'' → R false H'') → tt ((wipe σ vs).set i (some x)) H' R)
    (k : ∀ (p : Addr) (H' : Hp), H p = none → Same H H' → H' p = some (.lst []) → Q (.ref p) H') : tLc (iList K (tVar j)) (gName i) tt te vs σ H Q := by
  refine lc (il ⟨_, ej, _, rfl, ⟨_, hs⟩, fun D hD => lc_list (xs := items) (fun _ H' => Same H H' ∧ H' D = some (.lst [])) ⟨same_upd hD (Same.refl _), upd_same⟩ (fun t H' _ p => p.1.seq hs) (fun t x H' hx p => ?_) (fun H' p => k D H' hD p.1 p.2)⟩)
  obtain ⟨S, hl⟩ := p
  refine ⟨hw _, test x (List.mem_of_getElem? hx) H' S _ fun H'' S' => ?_⟩
  exact iteF (A := te _ H'' _) rfl ⟨S.trans S', S' _ _ hl⟩
theorem mulB {a n : Int} {A B : Nat} (ha : a.natAbs < 2 ^ A) (hn : n.natAbs < 2 ^ B) : -(2 ^ (A + B)) < a * n ∧ a * n < 2 ^ (A + B) := by
  have h := wide_lt ha hn
  have e : ((2 ^ (A + B) : Nat) : Int) = (2 : Int) ^ (A + B) := by simp
  rw [← e]
  omega
theorem dp_ints {K : PySem.W.Frag} {H : Hp} : ∀ ns : List Int, DpAll K H (ns.map V.int) (ns.map PyData.int)
  | [] => .nil
  | _ :: r => .cons (.int _) (dp_ints r)
theorem dp_listI {K : PySem.W.Frag} {H : Hp} {a : Addr} {ns : List Int} (h : SqL K H a (ns.map V.int)) : Dp K H (.ref a) (.list (ns.map PyData.int)) := .lst h (dp_ints ns)
theorem can_ints : ∀ ns : List Int, PyData.canLayAll0 (ns.map PyData.int) = true
  | [] => by simp [PyData.canLayAll0]
  | _ :: r => by simp only [List.map_cons, PyData.canLayAll0, PyData.canLay0, can_ints r, Bool.and_self]
theorem dep_ints : ∀ ns : List Int, PyData.depthAll (ns.map PyData.int) = 0
  | [] => by simp [PyData.depthAll]
  | _ :: r => by simp only [List.map_cons, PyData.depthAll, PyData.depth, dep_ints r, Nat.max_self]
theorem shaped_listI (ns : List Int) : SeqAt.shaped (.list (ns.map PyData.int)) = true := by
  simp only [SeqAt.shaped, PyData.canLay0, can_ints, PyData.depth, dep_ints]
  decide
theorem eqvAll_ints : ∀ ns ms : List Int, PyData.eqvAll (ns.map PyData.int) (ms.map PyData.int) = decide (ns = ms)
  | [], [] => by simp [PyData.eqvAll]
  | [], _ :: _ => by simp [PyData.eqvAll]
  | _ :: _, [] => by simp [PyData.eqvAll]
  | x :: r, y :: q => by
    simp only [List.map_cons, PyData.eqvAll, PyData.eqv, eqvAll_ints r q]
    by_cases h : x = y
    · subst h; simp
    · simp [h]
theorem eqv_listI (ns ms : List Int) : PyData.eqv (.list (ns.map PyData.int)) (.list (ms.map PyData.int)) = decide (ns = ms) := by
  simp only [PyData.eqv, eqvAll_ints]
theorem eqv_pair (a b c d : Int) : PyData.eqv (.tuple [.int a, .int b]) (.tuple [.int c, .int d]) = (a == c && b == d) := by
  simp [PyData.eqv, PyData.eqvAll]
theorem eqv_pairV (a b c d : Int) : PyData.eqv (.tuple [.int a, .int b]) (.tuple [.int c, .int d]) = (decide (V.int a = .int c) && decide (V.int b = .int d)) := by
  simp only [PyData.eqv, PyData.eqvAll, Bool.and_true, V.int.injEq]
  rw [Bool.eq_iff_iff]
  simp
theorem dp_pair {K : PySem.W.Frag} {H : Hp} {p : Addr} {a b : Int} (h : SqT K H p [.int a, .int b]) : Dp K H (.ref p) (.tuple [.int a, .int b]) := .tup h (.cons (.int _) (.cons (.int _) .nil))
theorem shaped_pair (a b : Int) : SeqAt.shaped (.tuple [.int a, .int b]) = true := by
  simp only [SeqAt.shaped, PyData.canLay0, PyData.canLayAll0, PyData.depth, PyData.depthAll]
  rfl
theorem isi {X : Cx} {K : PySem.W.Frag} (e : X.K = K) : CallR X (.builtin "isinstance") (rIsi K) := e ▸ call_isi
theorem dp_nil {K : PySem.W.Frag} {H : Hp} {p : Addr} (h : SqL K H p []) : Dp K H (.ref p) (.list []) := .lst h .nil
theorem eqv_nil : PyData.eqv (.list []) (.list []) = true := by simp [PyData.eqv, PyData.eqvAll]
theorem shaped_nil : SeqAt.shaped (.list []) = true := by
  simp only [SeqAt.shaped, PyData.canLay0, PyData.canLayAll0, PyData.depth, PyData.depthAll]
  rfl
/-- an item of a written list of ints at a drawn place -/
theorem pick {ns : List Int} {lo hi : Int} {K : PySem.W.Frag} {H : Hp} {a : Addr} {xs : List V} {d : Int} {Q : VK} (hm : ∀ n ∈ ns, lo ≤ n ∧ n ≤ hi) (e : SqL K H a xs) (eq : xs = ns.map V.int) (h0 : 0 ≤ d) (h1 : d < (ns.length : Int))
    (h : ∀ n : Int, n ∈ ns → lo ≤ n → n ≤ hi → Q (.int n) H) : rIxL K (.ref a) (.int d) H Q := by
  subst eq
  obtain ⟨j, rfl⟩ : ∃ j : Nat, d = (j : Int) := ⟨d.toNat, by omega⟩
  have hj : j < ns.length := by omega
  have hn : ns[j] ∈ ns := List.getElem_mem hj
  exact ⟨a, _, _, .int ns[j], rfl, rfl, e, atI_nat (by rw [List.getElem?_map, List.getElem?_eq_getElem hj]; rfl), h _ hn (hm _ hn).1 (hm _ hn).2⟩
theorem sgn {d n B : Int} (h0 : 0 ≤ d) (h1 : d < B) (m : n ∈ [(1 : Int), -1]) : -B < d * n ∧ d * n < B := by
  simp only [List.mem_cons, List.not_mem_nil, or_false] at m
  rcases m with rfl | rfl <;> omega
end Rd
/-! ## pairs in order, lists of truths -/
namespace Rd
open PySem PySem.Spec PyProof.Rows L2
/-- what an order of pairs says: rr of the first unlike parts, z where all are alike -/
def rPr (K : PySem.W.Frag) (z : Bool) (rr : Int → Int → Bool) : R2 := fun x y H Q => ∃ (p q : Addr) (a b c d : Int), x = .ref p ∧ y = .ref q ∧ SqT K H p [.int a, .int b] ∧ SqT K H q [.int c, .int d] ∧ Q (.bl (if a = c then (if b = d then z else rr b d) else rr a c)) H
theorem pair_ints {us : List Value} {a b : Int} (h : IntsAre us [a, b]) : ∃ t u, us = [.int a t, .int b u] := by
  cases h with
  | cons _ t h1 =>
    cases h1 with
    | cons _ u h2 =>
      cases h2
      exact ⟨t, u, rfl⟩
theorem opPr {X : Cx} {op : CmpOp} {z : Bool} {rr : Int → Int → Bool}
    (T : ∀ {s : Shared} {l m : Addr} {u1 u2 w1 w2 : Value} {e r : Nat → Bool}, s.heap.IsTuple l #[u1, u2] → s.heap.IsTuple m #[w1, w2] →
      (∀ j (h1 : j < (#[u1, u2] : Array Value).size) (h2 : j < (#[w1, w2] : Array Value).size), SeqAt.EqAt X.A.in1 s (#[u1, u2] : Array Value)[j] (#[w1, w2] : Array Value)[j] (e j)) →
      (∀ j (h1 : j < (#[u1, u2] : Array Value).size) (h2 : j < (#[w1, w2] : Array Value).size), e j = false → Ob.RcOp op X.A.in1 s (#[u1, u2] : Array Value)[j] (#[w1, w2] : Array Value)[j] (r j)) → Ob.RcOp op X.A s (.ref l) (.ref m) (Ob.lexAt e r z 0 2))
    (I1 : ∀ {s : Shared} (a b : Int) (t u : Tok), Ob.RcOp op X.A.in1 s (.int a t) (.int b u) (rr a b))
    (hop : ∀ (x y : Value), compareOp op x y = richCompare op x y) : OpR X (compareOp op) (rPr X.K z rr) := by
  intro pins s σ H x y v u Q I rx ry h
  obtain ⟨p, q, a, b, c, d, rfl, rfl, hp, hq, k⟩ := h
  cases rx
  cases ry
  obtain ⟨us, r1, p1, _⟩ := I.tuple hp
  obtain ⟨ws, r2, p2, _⟩ := I.tuple hq
  obtain ⟨t1, t2, rfl⟩ := pair_ints (Vals.ints (ns := [a, b]) r1)
  obtain ⟨t3, t4, rfl⟩ := pair_ints (Vals.ints (ns := [c, d]) r2)
  have R := T (s := s) (e := fun j => if j = 0 then decide (a = c) else decide (b = d)) (r := fun j => if j = 0 then rr a c else rr b d) p1 p2 (fun j h1 h2 => by
    rcases j with _ | _ | j
    · have w := SeqAt.EqAt.int_int (A := X.A.in1) (s := s) a t1 c t3
      rw [show (a == c) = decide (a = c) from by by_cases e : a = c <;> simp [e]] at w
      exact w
    · have w := SeqAt.EqAt.int_int (A := X.A.in1) (s := s) b t2 d t4
      rw [show (b == d) = decide (b = d) from by by_cases e : b = d <;> simp [e]] at w
      exact w
    · exact absurd h1 (by simp)) (fun j h1 h2 _ => by
    rcases j with _ | _ | j
    · exact I1 a c t1 t3
    · exact I1 b d t2 t4
    · exact absurd h1 (by simp))
  have hb : Ob.lexAt (fun j => if j = 0 then decide (a = c) else decide (b = d)) (fun j => if j = 0 then rr a c else rr b d) z 0 2 = (if a = c then (if b = d then z else rr b d) else rr a c) := by
    simp only [Ob.lexAt, decide_eq_true_eq, if_pos]
    by_cases e : a = c <;> by_cases f : b = d <;> simp [e, f]
  rw [hb] at R
  show wpAny (model X.prog X.w) X.A (compareOp op (.ref p) (.ref q)) (EP X pins σ Q) X.xe s
  rw [hop]
  exact R X.prog X.w X.xe (EP X pins σ Q) ⟨.bl _, H, I, rfl, k⟩
theorem opPrLt {X : Cx} (hu : X.A.units < cLine) : OpR X (compareOp .Lt) (rPr X.K false fun a b => decide (a < b)) :=
  opPr (fun h1 h2 e r => Ob.RcOp.tuples_lt h1 h2 hu e r) (fun a b t u => Ob.RcOp.lt_int a b t u) (fun _ _ => rfl)
theorem opPrLe {X : Cx} (hu : X.A.units < cLine) : OpR X (compareOp .LtE) (rPr X.K true fun a b => decide (a ≤ b)) :=
  opPr (fun h1 h2 e r => Ob.RcOp.tuples_le h1 h2 hu e r) (fun a b t u => Ob.RcOp.le_int a b t u) (fun _ _ => rfl)
theorem opPrGt {X : Cx} (hu : X.A.units < cLine) : OpR X (compareOp .Gt) (rPr X.K false fun a b => decide (b < a)) :=
  opPr (fun h1 h2 e r => Ob.RcOp.tuples_gt h1 h2 hu e r) (fun a b t u => Ob.RcOp.gt_int a b t u) (fun _ _ => rfl)
theorem opPrGe {X : Cx} (hu : X.A.units < cLine) : OpR X (compareOp .GtE) (rPr X.K true fun a b => decide (b ≤ a)) :=
  opPr (fun h1 h2 e r => Ob.RcOp.tuples_ge h1 h2 hu e r) (fun a b t u => Ob.RcOp.ge_int a b t u) (fun _ _ => rfl)
section
variable {K : PySem.W.Frag} {H : Hp} {p q : Addr} {a b c d : Int} {Q : VK}
theorem prLt (e : SqT K H p [.int a, .int b]) (f : SqT K H q [.int c, .int d]) (h : Q (.bl (decide (a < c ∨ a = c ∧ b < d))) H) : rPr K false (fun a b => decide (a < b)) (.ref p) (.ref q) H Q := by
  refine ⟨_, _, a, b, c, d, rfl, rfl, e, f, ?_⟩
  have w : (if a = c then (if b = d then false else decide (b < d)) else decide (a < c)) = decide (a < c ∨ a = c ∧ b < d) := by
    split <;> (try split) <;> (rw [eq_comm]; first | (apply decide_eq_false; omega) | (congr 1; apply propext; omega))
  rw [w]
  exact h
theorem prLe (e : SqT K H p [.int a, .int b]) (f : SqT K H q [.int c, .int d]) (h : Q (.bl (decide (a < c ∨ a = c ∧ b ≤ d))) H) : rPr K true (fun a b => decide (a ≤ b)) (.ref p) (.ref q) H Q := by
  refine ⟨_, _, a, b, c, d, rfl, rfl, e, f, ?_⟩
  have w : (if a = c then (if b = d then true else decide (b ≤ d)) else decide (a ≤ c)) = decide (a < c ∨ a = c ∧ b ≤ d) := by
    split <;> (try split) <;> (rw [eq_comm]; first | (apply decide_eq_true; omega) | (congr 1; apply propext; omega))
  rw [w]
  exact h
theorem prGt (e : SqT K H p [.int a, .int b]) (f : SqT K H q [.int c, .int d]) (h : Q (.bl (decide (c < a ∨ a = c ∧ d < b))) H) : rPr K false (fun a b => decide (b < a)) (.ref p) (.ref q) H Q := by
  refine ⟨_, _, a, b, c, d, rfl, rfl, e, f, ?_⟩
  have w : (if a = c then (if b = d then false else decide (d < b)) else decide (c < a)) = decide (c < a ∨ a = c ∧ d < b) := by
    split <;> (try split) <;> (rw [eq_comm]; first | (apply decide_eq_false; omega) | (congr 1; apply propext; omega))
  rw [w]
  exact h
theorem prGe (e : SqT K H p [.int a, .int b]) (f : SqT K H q [.int c, .int d]) (h : Q (.bl (decide (c < a ∨ a = c ∧ d ≤ b))) H) : rPr K true (fun a b => decide (b ≤ a)) (.ref p) (.ref q) H Q := by
  refine ⟨_, _, a, b, c, d, rfl, rfl, e, f, ?_⟩
  have w : (if a = c then (if b = d then true else decide (d ≤ b)) else decide (c ≤ a)) = decide (c < a ∨ a = c ∧ d ≤ b) := by
    split <;> (try split) <;> (rw [eq_comm]; first | (apply decide_eq_true; omega) | (congr 1; apply propext; omega))
  rw [w]
  exact h
end
/-- t + u, of pairs -/
theorem catP {K : PySem.W.Frag} {H : Hp} {p q : Addr} {a b c d : V} {Q : VK} (e : SqT K H p [a, b]) (f : SqT K H q [c, d]) (h : ∀ r, H r = none → Q (.ref r) (upd H r (.tup [a, b, c, d]))) : rCatT K (.ref p) (.ref q) H Q :=
  ⟨p, q, _, _, rfl, rfl, e, f, by simp, Nat.le_of_lt (small1000 (show 4 ≤ 1000 by decide)), fun z => absurd z (by simp), fun _ r hr => h r hr⟩
theorem it {K : PySem.W.Frag} {tl : TE} {σ : L2.St} {H : Hp} {R : It → Hp → Prop} (h : tl σ H fun x H1 => ∃ a, x = .ref a ∧ (∃ xs, SqT K H1 a xs) ∧ R (Itt K a) H1) : iTup K tl σ H R := h
theorem ckw {r : List V → List V → Hp → VK → Prop} {t tk : TA} {σ : L2.St} {H : Hp} {Q : VK} (h : t σ H fun vs H1 => tk σ H1 fun zs H2 => r vs zs H2 Q) : tCKw r t tk σ H Q := h
theorem sqTS {K : PySem.W.Frag} {H H' : Hp} {a : Addr} {xs : List V} (f : Same H H') (h : SqT K H a xs) : SqT K H' a xs :=
  h.elim (fun r => .inl (r.elim (fun z => .inl (f _ _ z)) fun ⟨o, z⟩ => .inr ⟨o, f _ _ z⟩)) .inr
/-- [e for x in t], t a tuple of ints -/
theorem lcMapT {ns : List Int} {g : Int → Int} {K : PySem.W.Frag} {a : Addr} {i : Nat} {te : TE} {vs : List Nat} {σ : L2.St} {H : Hp} {Q : VK} {xs : List V} (hs : SqT K H a xs) (ex : xs = ns.map V.int) (hn : ns.length ≤ 1000)
    (hw : ∀ x, wipe ((wipe σ vs).set i (some x)) vs = wipe σ vs)
    (elem : ∀ x ∈ ns, ∀ H', Same H H' → ∀ R : VK, (∀ H'', Same H' H'' → R (.int (g x)) H'') → te ((wipe σ vs).set i (some (.int x))) H' R)
    (k : ∀ (p : Addr) (H' : Hp), H p = none → Same H H' → H' p = some (.lst ((ns.map g).map V.int)) → Q (.ref p) H') :
    (∃ xs, SqT K H a xs) ∧ ∀ D, H D = none → ∃ W : Nat → Nat → Hp → Prop, (∃ m, W 0 m (upd H D (.lst []))) ∧ ∀ t m H, W t m H →
      ((Itt K a).stop t H ∧ Q (.ref D) H) ∨ ((Itt K a).go t H ∧ ∃ Nx : Hp → Prop, (∀ H', Nx H' → ∃ m', m' < m ∧ W (t + 1) m' H') ∧ ∀ x H', (Itt K a).yld t H x H' → (gName i) x (wipe σ vs) H' fun σ2 H2 => wipe σ2 vs = wipe σ vs ∧ tYes σ2 H2 fun b H3 =>
        if b = true then te σ2 H3 fun y H4 => ∃ acc, H4 D = some (.lst acc) ∧ acc.length < sizeLine ∧ Nx (upd H4 D (.lst (acc ++ [y]))) else Nx H3) := by
  subst ex
  refine ⟨⟨_, hs⟩, fun D hD => lc_tup (xs := ns.map V.int) (fun t H' => Same H H' ∧ H' D = some (.lst (((ns.take t).map g).map V.int))) ⟨same_upd hD (Same.refl _), upd_same⟩ (fun t H' _ p => sqTS p.1 hs) (fun t x H' hx p => ?_) (fun H' p => ?_)⟩
  · obtain ⟨S, hl⟩ := p
    rw [List.getElem?_map] at hx
    cases e : ns[t]? with
    | none => rw [e] at hx; cases hx
    | some y =>
      rw [e] at hx
      cases hx
      have hy : y ∈ ns := List.mem_of_getElem? e
      have ht : t < ns.length := (List.getElem?_eq_some_iff.mp e).1
      refine ⟨hw _, iteT (B := Same H H' ∧ H' D = some (.lst (((ns.take (t + 1)).map g).map V.int))) rfl (elem y hy H' S _ fun H'' S' => ⟨_, S' _ _ hl, ?_, ?_, ?_⟩)⟩
      · rw [List.length_map, List.length_map, List.length_take]
        exact small1000 (by omega)
      · exact same_upd hD (S.trans S')
      · rw [upd_same, List.take_add_one, e]
        simp
  · obtain ⟨S, hl⟩ := p
    rw [List.length_map, List.take_length] at hl
    exact k D H' hD S hl
/-- [e for x in t + u], t and u pairs of ints -/
theorem lcCatI {a b c d : Int} {g : Int → Int} {K : PySem.W.Frag} {p q : Addr} {i j1 j2 : Nat} {te : TE} {vs : List Nat} {σ : L2.St} {H : Hp} {Q : VK} (e1 : σ[j1]? = some (some (.ref p))) (e2 : σ[j2]? = some (some (.ref q))) (hp : SqT K H p [.int a, .int b]) (hq : SqT K H q [.int c, .int d])
    (hw : ∀ x, wipe ((wipe σ vs).set i (some x)) vs = wipe σ vs)
    (elem : ∀ x ∈ [a, b, c, d], ∀ H', Same H H' → ∀ R : VK, (∀ H'', Same H' H'' → R (.int (g x)) H'') → te ((wipe σ vs).set i (some (.int x))) H' R)
    (k : ∀ (r : Addr) (H' : Hp), Same H H' → H' r = some (.lst (([a, b, c, d].map g).map V.int)) → Q (.ref r) H') : tLc (iTup K (tOp (rCatT K) (tVar j1) (tVar j2))) (gName i) tYes te vs σ H Q :=
  lc (it ⟨_, e1, _, e2, catP hp hq fun r hr => ⟨r, rfl, lcMapT (SqT.of (L2.upd_same)) rfl (by simp) hw (fun x hx H' S R kk => elem x hx H' (Same.trans (same_upd hr (Same.refl _)) S) R kk) fun r2 H' h2 S hl => k r2 H' (Same.trans (same_upd hr (Same.refl _)) S) hl⟩⟩)
theorem two {u v : V} {i : Nat} {x : V} (h : [u, v][i]? = some x) : x = u ∨ x = v := by
  rcases i with _ | _ | i
  · exact .inl (Option.some.inj h).symm
  · exact .inr (Option.some.inj h).symm
  · simp at h
theorem dp_b4 {K : PySem.W.Frag} {H : Hp} {p : Addr} {x y z w : Bool} (h : SqL K H p [.bl x, .bl y, .bl z, .bl w]) : Dp K H (.ref p) (.list [.bool x, .bool y, .bool z, .bool w]) := .lst h (.cons (.bl _) (.cons (.bl _) (.cons (.bl _) (.cons (.bl _) .nil))))
theorem shaped_b4 (x y z w : Bool) : SeqAt.shaped (.list [.bool x, .bool y, .bool z, .bool w]) = true := by
  simp only [SeqAt.shaped, PyData.canLay0, PyData.canLayAll0, PyData.depth, PyData.depthAll]
  rfl
theorem lessV (a b c d : Int) : (decide (a < c) || (decide (V.int a = V.int c) && decide (b < d))) = decide (a < c ∨ a = c ∧ b < d) := by
  rw [Bool.eq_iff_iff]
  simp
theorem told4 (a b c d : Int) : (!PyData.eqv (.list [.bool (decide (a < c ∨ a = c ∧ b < d)), .bool (decide (a < c ∨ a = c ∧ b ≤ d)), .bool (decide (c < a ∨ a = c ∧ d < b)), .bool (decide (c < a ∨ a = c ∧ d ≤ b))])
    (.list [.bool (decide (a < c ∨ a = c ∧ b < d)), .bool (decide (a < c ∨ a = c ∧ b < d) || PyData.eqv (.tuple [.int a, .int b]) (.tuple [.int c, .int d])), .bool (!decide (a < c ∨ a = c ∧ b < d) && !PyData.eqv (.tuple [.int a, .int b]) (.tuple [.int c, .int d])), .bool (!decide (a < c ∨ a = c ∧ b < d))])) = false := by
  have e : PyData.eqv (.tuple [.int a, .int b]) (.tuple [.int c, .int d]) = decide (a = c ∧ b = d) := by
    rw [eqv_pair, Bool.eq_iff_iff]
    simp
  have e1 : decide (a < c ∨ a = c ∧ b ≤ d) = (decide (a < c ∨ a = c ∧ b < d) || decide (a = c ∧ b = d)) := by
    rw [Bool.eq_iff_iff]
    simp only [Bool.or_eq_true, decide_eq_true_eq]
    omega
  have e2 : decide (c < a ∨ a = c ∧ d < b) = (!decide (a < c ∨ a = c ∧ b < d) && !decide (a = c ∧ b = d)) := by
    rw [Bool.eq_iff_iff]
    simp only [Bool.and_eq_true, Bool.not_eq_true', decide_eq_true_eq, decide_eq_false_iff_not]
    omega
  have e3 : decide (c < a ∨ a = c ∧ d ≤ b) = (!decide (a < c ∨ a = c ∧ b < d)) := by
    rw [Bool.eq_iff_iff]
    simp only [Bool.not_eq_true', decide_eq_true_eq, decide_eq_false_iff_not]
    omega
  rw [e, e1, e2, e3]
  simp [PyData.eqv, PyData.eqvAll]
theorem absB {x m : Int} (h : (if x < 0 then -x else x) ≤ m) : -m ≤ x ∧ x ≤ m := by
  split at h <;> omega
theorem ltAt {a b c d n m : Int} (hn : n = 1000000000 ∨ n = 1000000000000000000000000000000) (hm : m ≤ 1000000) (ha : -m ≤ a ∧ a ≤ m) (hb : -m ≤ b ∧ b ≤ m) (hc : -m ≤ c ∧ c ≤ m) (hd : -m ≤ d ∧ d ≤ m) : decide (a * n + b < c * n + d) = decide (a < c ∨ a = c ∧ b < d) := by
  rw [Bool.eq_iff_iff]
  simp only [decide_eq_true_eq]
  rcases hn with rfl | rfl <;> omega
theorem eqAt {a b c d n m : Int} (hn : n = 1000000000 ∨ n = 1000000000000000000000000000000) (hm : m ≤ 1000000) (ha : -m ≤ a ∧ a ≤ m) (hb : -m ≤ b ∧ b ≤ m) (hc : -m ≤ c ∧ c ≤ m) (hd : -m ≤ d ∧ d ≤ m) : decide (V.int (a * n + b) = V.int (c * n + d)) = (decide (V.int a = V.int c) && decide (V.int b = V.int d)) := by
  rw [Bool.eq_iff_iff]
  simp only [Bool.and_eq_true, decide_eq_true_eq, V.int.injEq]
  rcases hn with rfl | rfl <;> omega
end Rd
/-! ## max(xs, key=int) of a list of ints -/
namespace MxK
open PySem PySem.Spec PyProof.Rows L2
section
variable {prog : Program} {w : World} {A : Around} {E : Value → Shared → Prop} {s : Shared} {l I S : Addr} {vs : List Value} {ns : List Int} {Z : Result → Shared → Prop}
/-- what the walk keeps: the older objects, the best with its key in S, the walker's place in I -/
structure St (s : Shared) (l I S : Addr) (h : Heap) (j : Nat) (M : Int) (tv tb : Tok) : Prop where
  old : ∀ b o, s.heap.get? b = some o → h.get? b = some o
  sto : ∃ c, h.get? S = some (seqObj "list" #[.int M tv, .int M tb] c)
  itr : h.IsListIter I l j
theorem St.list {h : Heap} {j : Nat} {M : Int} {tv tb : Tok} (K : St s l I S h j M tv tb) (hl : s.heap.IsList l vs.toArray) : h.IsList l vs.toArray := by
  obtain ⟨o, e, r⟩ := hl
  exact ⟨o, K.old _ _ e, r⟩
theorem getD_of {ns : List Int} {i : Nat} {n : Int} (h : ns[i]? = some n) : ns.getD i 0 = n := by simp [h]
theorem item {i : Nat} {v : Value} (hi : IntsAre vs ns) (h : vs[i]? = some v) : ∃ t, v = .int (ns.getD i 0) t ∧ ns.getD i 0 ∈ ns := by
  have hlen := hi.length
  have h1 : i < vs.length := (List.getElem?_eq_some_iff.mp h).1
  have h2 : ns[i]? = some (ns[i]'(by omega)) := List.getElem?_eq_getElem (by omega)
  obtain ⟨t, ht⟩ := hi.get i _ h2
  rw [h] at ht
  cases ht
  exact ⟨t, by rw [getD_of h2], by rw [getD_of h2]; exact List.getElem_mem _⟩
theorem loop (hh : A.handled = none) (hl : s.heap.IsList l vs.toArray) (hi : IntsAre vs ns) (hlI : l ≠ I) (hSI : S ≠ I) (nS : s.heap.get? S = none) (nI : s.heap.get? I = none)
    (done : ∀ h' tk' M t, (∀ b o, s.heap.get? b = some o → h'.get? b = some o) → M ∈ ns → (∀ a ∈ ns, a ≤ M) → Z (.ok (.ret (.int M t))) { s with heap := h', toks := tk' }) :
    ∀ (r j : Nat) (h : Heap) (tk : Nat) (M : Int) (tv tb : Tok), vs.length - j = r → j ≤ vs.length → St s l I S h j M tv tb → M ∈ ns → (∀ i, i < j → ns.getD i 0 ≤ M) →
      codeAny (model prog w) A (.builtin "max.loop" ⟨[.ref I, .type "int", .ref S], []⟩) Z { s with heap := h, toks := tk } := by
  have nm : (toString "max" ++ toString ".loop" : String) = "max.loop" := by decide
  have Wk := Walks.list (prog := prog) (w := w) (A := A.in1) hh I l hlI vs.toArray
  have zs : vs.toArray.size = vs.length := List.size_toArray ..
  have hlen := hi.length
  intro r
  induction r with
  | zero =>
    intro j h tk M tv tb hr hj K hM hb
    have ej : j = vs.length := by omega
    obtain ⟨c, gS⟩ := K.sto
    refine codeAny_builtin PySem.F.entry_max_loop (?_ : _)
    rw [Around.under_plainId (PySem.F.plain_max_loop : _) _]
    show wpAny _ A.in1 (seqItems? (.ref S) >>= fun _ => _) _ _ _
    refine wpAny_bind (wpAny_seqItems gS rfl (?_ : _))
    show wpAny _ A.in1 (tryCatch (pyNext (.ref I)) _ >>= fun _ => _) _ _ _
    refine wpAny_bind (wpAny_tryCatch (Wk.done _ _ _ ⟨by rw [zs, ← ej]; exact K.itr, K.list hl⟩ fun h' tk' kept => ?_))
    have gS' := kept S _ (by simpa using hSI) gS
    have sb := Heap.SameBut.update h' S (Obj.mapSeq fun _ => (#[] : Array Value))
    show wpAny _ A.in1 (updateSeq S (fun _ => #[]) >>= fun _ => _) _ _ _
    refine wpAny_bind (wpAny_updateSeq gS' rfl (wpAny_bind (wpAny_letGo (wpAny_pure (done _ _ M tv (fun b o q => ?_) hM (fun a ha => ?_))))))
    · have nb : b ≠ S := fun z => by rw [z, nS] at q; cases q
      have ni : b ≠ I := fun z => by rw [z, nI] at q; cases q
      rw [sb.2 b nb]
      exact kept b o (by simpa using ni) (K.old b o q)
    · obtain ⟨i, hi1, rfl⟩ := List.getElem_of_mem ha
      have := hb i (by omega)
      rw [getD_of (List.getElem?_eq_getElem hi1)] at this
      exact this
  | succ r ih =>
    intro j h tk M tv tb hr hj K hM hb
    have lt : j < vs.length := by omega
    obtain ⟨c, gS⟩ := K.sto
    refine codeAny_builtin PySem.F.entry_max_loop (?_ : _)
    rw [Around.under_plainId (PySem.F.plain_max_loop : _) _]
    show wpAny _ A.in1 (seqItems? (.ref S) >>= fun _ => _) _ _ _
    refine wpAny_bind (wpAny_seqItems gS rfl (?_ : _))
    show wpAny _ A.in1 (tryCatch (pyNext (.ref I)) _ >>= fun _ => _) _ _ _
    refine wpAny_bind (wpAny_tryCatch (Wk.item j _ _ _ (by rw [zs]; exact lt) ⟨K.itr, K.list hl⟩ fun v h' tk' hP st kept => ?_))
    obtain ⟨t, rfl, hn⟩ := item hi (show vs[j]? = some v by simpa using hP)
    have gS' := kept S _ (by simpa using hSI) gS
    have K' : ∀ b o, s.heap.get? b = some o → h'.get? b = some o := fun b o q => by
      have ni : b ≠ I := fun z => by rw [z, nI] at q; cases q
      exact kept b o (by simpa using ni) (K.old b o q)
    have bN : ∀ x, M ≤ x → ns.getD j 0 ≤ x → ∀ i, i < j + 1 → ns.getD i 0 ≤ x := fun x h1 h2 i hi1 => by
      by_cases e : i = j
      · rw [e]; exact h2
      · exact Int.le_trans (hb i (by omega)) h1
    generalize hx : ns.getD j 0 = x at hn bN ⊢
    show wpAny _ A.in1 (tryCatch (holding [.int x t] (call (.type "int") [.int x t])) _ >>= fun _ => _) _ _ _
    refine wpAny_bind (wpAny_tryCatch (wpAny_holding (call_int_int ?_)))
    show wpAny _ A.in1 (tryCatch (holding [.int x t, .int x t] (richCompare .Gt (.int x t) (.int M tb) >>= fun _ => _)) _ >>= fun _ => _) _ _ _
    refine wpAny_bind (wpAny_tryCatch (wpAny_holding (wpAny_bind (PyProof.Rows.gt_int ?_))))
    refine wpAny_bind (wpAny_holding (wpAny_truthy_bool ?_))
    refine wpAny_bind (wpAny_letGo (wpAny_pure (?_ : _)))
    by_cases q : M < x
    · have sb := Heap.SameBut.update h' S (Obj.mapSeq fun _ => #[.int x t, .int x t])
      have gN : ∃ c2, (h'.update S (Obj.mapSeq fun _ => #[.int x t, .int x t])).get? S = some (seqObj "list" #[.int x t, .int x t] c2) := ⟨_, get?_update_seq gS' fun _ => #[.int x t, .int x t]⟩
      obtain ⟨oI, gI, oc, od⟩ := id st.1
      simp only [q, decide_true, if_true]
      refine wpAny_bind (wpAny_updateSeq gS' rfl (wpAny_bind (wpAny_letGo ?_)))
      rw [nm]
      refine wpAny_pure ⟨plainId_quiet (PySem.F.plain_max_loop : _) _, ih (j + 1) _ _ x t t (by omega) lt ⟨fun b o e => ?_, gN, ⟨oI, (sb.2 I hSI.symm).trans gI, oc, od⟩⟩ hn (bN x (by omega) (Int.le_refl _))⟩
      have nb : b ≠ S := fun z => by rw [z, nS] at e; cases e
      rw [sb.2 b nb]
      exact K' b o e
    · simp only [q, decide_false, Bool.false_eq_true, if_false]
      refine wpAny_bind (wpAny_letGo (?_ : _))
      rw [nm]
      exact wpAny_pure ⟨plainId_quiet (PySem.F.plain_max_loop : _) _, ih (j + 1) _ _ M tv tb (by omega) lt ⟨K', ⟨c, gS'⟩, st.1⟩ hM (bN M (Int.le_refl _) (by omega))⟩
theorem max_key_int {Q : Value → Shared → Prop} (hh : A.handled = none) (hl : s.heap.IsList l vs.toArray) (hi : IntsAre vs ns) (hne : 0 < ns.length)
    (k : ∀ h' tk' M t, (∀ b o, s.heap.get? b = some o → h'.get? b = some o) → M ∈ ns → (∀ a ∈ ns, a ≤ M) → Q (.int M t) { s with heap := h', toks := tk' }) :
    wpAny (model prog w) A (call (.builtin "max") [.ref l] [(Str.ofString "key", .type "int")]) Q E s := by
  have nm : (toString "max" ++ toString ".loop" : String) = "max.loop" := by decide
  obtain ⟨ol, el, _⟩ := id hl
  have hlen := hi.length
  have ll : l < s.heap.objs.size := Heap.lt_size el
  refine kmb_tree PySem.F.kind_max PySem.F.plain_max PySem.F.entry_max (kmb_max_key _ _) (?_ : _)
  show wpAny _ A.in1 (Builtin.Builtins.bindParams "max" ["key", "default"] 0 ⟨[], [(Str.ofString "key", .type "int")]⟩ >>= fun _ => _) _ _ s
  refine wpAny_bind (wpAny_of_eq (show Builtin.Builtins.bindParams "max" ["key", "default"] 0 ⟨[], [(Str.ofString "key", .type "int")]⟩ = pure [some (.type "int"), none] from rfl) (wpAny_bind (wpAny_pure ?_)))
  refine wpAny_bind (wpAny_pyIter_list hl (wpAny_bind (wpAny_newList ?_ (Nat.zero_le _))))
  rw [nm]
  generalize hG : s.heap.push { cls := .type "list_iterator", data := .fields #[.ref l, .int 0 0] } = G
  have gz : G.objs.size = s.heap.objs.size + 1 := by rw [← hG]; exact size_push' ..
  have gI0 : G.get? s.heap.objs.size = some { cls := .type "list_iterator", data := .fields #[.ref l, .int 0 0] } := by rw [← hG]; exact Heap.get?_push_size _ rfl
  have gI : (G.push (seqObj "list" #[] 0)).get? s.heap.objs.size = some { cls := .type "list_iterator", data := .fields #[.ref l, .int 0 0] } := Heap.get?_push_of_some _ gI0
  have gS : (G.push (seqObj "list" #[] 0)).get? G.objs.size = some (seqObj "list" #[] 0) := Heap.get?_push_size _ rfl
  have old : ∀ b o, s.heap.get? b = some o → (G.push (seqObj "list" #[] 0)).get? b = some o := fun b o e => by
    rw [← hG]
    exact Heap.get?_push_of_some _ (Heap.get?_push_of_some _ e)
  have hlI : l ≠ s.heap.objs.size := Nat.ne_of_lt ll
  have hSI : G.objs.size ≠ s.heap.objs.size := by omega
  have nI : s.heap.get? s.heap.objs.size = none := Heap.get?_none_of_le (Nat.le_refl _)
  have nS : s.heap.get? G.objs.size = none := Heap.get?_none_of_le (by omega)
  have Wk := Walks.list (prog := prog) (w := w) (A := A.in1) hh s.heap.objs.size l hlI vs.toArray
  have zs : vs.toArray.size = vs.length := List.size_toArray ..
  refine wpAny_pure ⟨plainId_quiet (PySem.F.plain_max_loop : _) _, codeAny_builtin PySem.F.entry_max_loop (?_ : _)⟩
  rw [Around.under_plainId (PySem.F.plain_max_loop : _) _]
  show wpAny _ A.in1 (seqItems? (.ref _) >>= fun _ => _) _ _ _
  refine wpAny_bind (wpAny_seqItems gS rfl (?_ : _))
  show wpAny _ A.in1 (tryCatch (pyNext (.ref s.heap.objs.size)) _ >>= fun _ => _) _ _ _
  have ol2 : (G.push (seqObj "list" #[] 0)).IsList l vs.toArray := by
    obtain ⟨o, e, z⟩ := id hl
    exact ⟨o, old _ _ e, z⟩
  refine wpAny_bind (wpAny_tryCatch (Wk.item 0 _ _ _ (by rw [zs]; omega) ⟨⟨_, gI, rfl, rfl⟩, ol2⟩ fun v h' tk' hP st kept => ?_))
  obtain ⟨t, rfl, hn⟩ := item hi (show vs[0]? = some v by simpa using hP)
  have gS' := kept _ _ (by simpa using hSI) gS
  generalize hx : ns.getD 0 0 = x at hn ⊢
  show wpAny _ A.in1 (tryCatch (holding [.int x t] (call (.type "int") [.int x t])) _ >>= fun _ => _) _ _ _
  refine wpAny_bind (wpAny_tryCatch (wpAny_holding (call_int_int ?_)))
  have sb := Heap.SameBut.update h' G.objs.size (Obj.mapSeq fun _ => #[.int x t, .int x t])
  have gN : ∃ c2, (h'.update G.objs.size (Obj.mapSeq fun _ => #[.int x t, .int x t])).get? G.objs.size = some (seqObj "list" #[.int x t, .int x t] c2) := ⟨_, get?_update_seq gS' fun _ => #[.int x t, .int x t]⟩
  obtain ⟨oI, gI', oc, od⟩ := id st.1
  show wpAny _ A.in1 (updateSeq G.objs.size (fun _ => #[.int x t, .int x t]) >>= fun _ => _) _ _ _
  refine wpAny_bind (wpAny_updateSeq gS' rfl (?_ : _))
  rw [nm]
  refine wpAny_pure ⟨plainId_quiet (PySem.F.plain_max_loop : _) _, loop hh hl hi hlI hSI nS nI (fun h2 tk2 M t2 q hM hb => k h2 tk2 M t2 q hM hb) _ 1 _ _ x t t rfl (by omega) ⟨fun b o e => ?_, gN, ⟨oI, (sb.2 _ hSI.symm).trans gI', oc, od⟩⟩ hn (fun i hi1 => ?_)⟩
  · have nb : b ≠ G.objs.size := fun z => by rw [z, nS] at e; cases e
    have ni : b ≠ s.heap.objs.size := fun z => by rw [z, nI] at e; cases e
    rw [sb.2 b nb]
    exact kept b o (by simpa using ni) (old b o e)
  · have e : i = 0 := by omega
    rw [e, hx]
    exact Int.le_refl _
end
def rMaxK (K : PySem.W.Frag) : List V → List V → Hp → VK → Prop := fun vs zs H Q => ∃ (a : Addr) (ns : List Int), vs = [V.ref a] ∧ zs = [.ty "int"] ∧ SqL K H a (ns.map V.int) ∧ 0 < ns.length ∧ ∀ m, m ∈ ns → (∀ y, y ∈ ns → y ≤ m) → Q (.int m) H
theorem ck_max {X : Cx} (hc : X.calm = true) : CallRK X (.builtin "max") ["key"] (rMaxK X.K) := by
  intro pins s σ H xs zs us ws Q I r r2 h
  obtain ⟨a, ns, rfl, rfl, hs, hne, q⟩ := h
  obtain ⟨its, rv, hl, _⟩ := I.list hs
  obtain ⟨u, rfl, ru⟩ := vals1 r2
  cases ru
  rw [Vals.ref1 r]
  exact max_key_int (I.ok.hd hc) hl.isList rv.ints hne fun h' tk m t' hk h1 h2 => ⟨.int _, H, I.kept hk, ⟨_, rfl⟩, q m h1 h2⟩
end MxK
/-! ## an object of a built-in type without the number's slot, left of an own instance -/
namespace Own
open PySem PySem.Spec PyProof.Rows
section
variable {prog : Program} {w : World} {A : Around} {E : Value → Shared → Prop} {s : Shared} {K : PySem.W.Frag} {x C dx f f0 : Addr} {od : Option Obj} {op : Operator} {T : String}
theorem binR0 {a : Value} {Q : Value → Shared → Prop} (KX : K.In s.heap) (I : PySem.W.InstAt s.heap x (PySem.W.instObj C dx) C od) (hc : PySem.W.selfFirst K C = true) (ta : PySem.W.Looks (model prog w) s.heap (typeOf a) (.type T))
    (h0 : PySem.W.findIn K (.ref C) (PySem.dunder op.info.2) = some (some (.ref f0))) (h1 : PySem.W.findIn K (.ref C) (dunderR op.info.2) = some (some (.ref f))) (hf : PySem.W.isFn K (.ref f) = true)
    (hfill : PySem.W.Looks (model prog w) s.heap (fillsNumberSlot (.type T) op.info.2) false)
    (h : wpAny (model prog w) A (call (.ref f) [.ref x, a]) (PySem.W.CmpBack Q) E s) : wpAny (model prog w) A (binaryOp op a (.ref x)) Q E s := by
  obtain ⟨cd, rest, hcd, hm⟩ := PySem.W.ksp_first hc
  rcases hi : op.info with ⟨sym, nm⟩
  rw [hi] at h0 h1 hfill
  dsimp only at h0 h1 hfill
  have two := PySem.W.ksp_try KX I h1 hf h
  obtain ⟨hh, g, d, tt, os⟩ := s
  have L1 : PySem.W.Looks (model prog w) hh (typeOf (.ref x)) (.ref C) := I.type
  have L3 : PySem.W.Looks (model prog w) hh (fillsNumberSlot (.ref C) nm) true := PySem.W.fills_K KX hcd hm h0
  have nc : (Value.type T == Value.ref C) = false := Bool.eq_false_iff.mpr fun q => nomatch beq_iff_eq.mp q
  simp only [binaryOp, hi]
  refine wpAny_holding (wpAny_bind (?_ : _))
  unfold binaryOp1
  refine wpAny_bind (ta.at (wpAny_bind (L1.at (wpAny_bind (hfill.at ?_)))))
  simp only [nc, Bool.false_eq_true, if_false]
  refine wpAny_bind (L3.at (?_ : _))
  simp only [Bool.false_and, Bool.false_eq_true, if_false, pure_bind, Bool.not_false, Bool.and_self, if_true]
  refine wpAny_bind (wpAny_mono two (fun r s' q => ?_) fun _ _ e => e)
  obtain ⟨v, rfl, q⟩ := q
  exact wpAny_bind (wpAny_rule (wpAny_pure (wpAny_pure q)))
end
end Own
namespace Own
open PySem PySem.Spec PyProof.Rows L2
section
variable {prog : Program} {w : World} {A : Around} {E : Value → Shared → Prop} {s : Shared} {K : PySem.W.Frag} {x C dx f f0 : Addr} {od : Option Obj} {op : Operator} {T : String}
theorem binT0 {b : Value} {Q : Value → Shared → Prop} (KX : K.In s.heap) (I : PySem.W.InstAt s.heap x (PySem.W.instObj C dx) C od) (hc : PySem.W.selfFirst K C = true) (tb : PySem.W.Looks (model prog w) s.heap (typeOf b) (.type T))
    (h0 : PySem.W.findIn K (.ref C) (PySem.dunder op.info.2) = some (some (.ref f))) (hf : PySem.W.isFn K (.ref f) = true) (hfill : PySem.W.Looks (model prog w) s.heap (fillsNumberSlot (.type T) op.info.2) false)
    (h : wpAny (model prog w) A (call (.ref f) [.ref x, b]) (PySem.W.CmpBack Q) E s) : wpAny (model prog w) A (binaryOp op (.ref x) b) Q E s := by
  obtain ⟨cd, rest, hcd, hm⟩ := PySem.W.ksp_first hc
  rcases hi : op.info with ⟨sym, nm⟩
  rw [hi] at h0 hfill
  dsimp only at h0 hfill
  have one := PySem.W.ksp_try KX I h0 hf h
  obtain ⟨hh, g, d, tt, os⟩ := s
  have L1 : PySem.W.Looks (model prog w) hh (typeOf (.ref x)) (.ref C) := I.type
  have L3 : PySem.W.Looks (model prog w) hh (fillsNumberSlot (.ref C) nm) true := PySem.W.fills_K KX hcd hm h0
  have nc : (Value.ref C == Value.type T) = false := Bool.eq_false_iff.mpr fun q => nomatch beq_iff_eq.mp q
  simp only [binaryOp, hi]
  refine wpAny_holding (wpAny_bind (?_ : _))
  unfold binaryOp1
  refine wpAny_bind (L1.at (wpAny_bind (tb.at (wpAny_bind (L3.at (?_ : _))))))
  simp only [nc, Bool.false_eq_true, if_false]
  refine wpAny_bind (hfill.at (?_ : _))
  simp only [Bool.and_false, Bool.false_and, Bool.false_eq_true, if_false, pure_bind, Bool.not_false, Bool.and_self, if_true]
  refine wpAny_bind (wpAny_mono one (fun r s' q => ?_) fun _ _ e => e)
  obtain ⟨v, rfl, q⟩ := q
  exact wpAny_pure (wpAny_pure q)
end
section
variable {X : Cx} {CX : CXT} {k : Nat} {f C : Addr} {fd : FuncData} {ps : List Str} {sp : Sp} {E : XK} {op : Operator} {Ts : List String}
/-- built-in types that have no number's slot -/
structure NoSlot (K : PySem.W.Frag) (op : Operator) (T : String) : Prop where
  l : ∃ fo ro, PySem.W.findIn K (.type T) (PySem.dunder op.info.2) = some fo ∧ PySem.W.findIn K (.type T) (dunderR op.info.2) = some ro ∧ ((fo.isSome && !isSeqSlot fo) || (ro.isSome && !isSeqSlot ro)) = false
theorem NoSlot.fills {K : PySem.W.Frag} {T : String} {M : Model} {h : Heap} (Z : NoSlot K op T) (KX : K.In h) : PySem.W.Looks M h (fillsNumberSlot (.type T) op.info.2) false := by
  obtain ⟨fo, ro, h1, h2, e⟩ := Z.l
  have z := PySem.W.ksp_fillsT (M := M) KX h1 h2
  rw [e] at z
  exact z
/-- any object of such a type left of an own instance: the reflected operator is asked -/
def rOddL (K : PySem.W.Frag) (C : Addr) (Ts : List String) (sp : Sp) (E : XK) : R2 := fun x y H Q => ∃ a dx fs T, y = .ref a ∧ H a = some (.ins C dx fs) ∧ T ∈ Ts ∧ TyX K H x (.type T) ∧ sp [.ref a, x] H Q E
theorem opL0 (F : FnOk X.prog X.w X.K X.mg X.base CX k f fd ps sp) (hr : Room k X.A) (Z : BinR X.K C f op) (N : ∀ T ∈ Ts, NoSlot X.K op T) (hb : Binds X.K fd ps []) (hx : Passes CX X E) : OpR X (binaryOp op) (rOddL X.K C Ts sp E) := by
  rintro pins s σ H x y u v Q I rx ry ⟨a, dx, fs, T, rfl, ha, hT, ty, q⟩
  cases ry
  obtain ⟨od, J⟩ := inst I ha
  obtain ⟨z1, ⟨f0, z2⟩, z3, z4, z5⟩ := Z
  exact binR0 I.kIn J z1 (typed I rx ty) z2 z3 z4 ((N T hT).fills I.kIn) (back (run2 (x := .ref a) F hr hb hx I rfl rx q))
/-- any object of such a type right of an own instance -/
def rOddR (K : PySem.W.Frag) (C : Addr) (Ts : List String) (sp : Sp) (E : XK) : R2 := fun x y H Q => ∃ a dx fs T, x = .ref a ∧ H a = some (.ins C dx fs) ∧ T ∈ Ts ∧ TyX K H y (.type T) ∧ sp [.ref a, y] H Q E
theorem opR0 (F : FnOk X.prog X.w X.K X.mg X.base CX k f fd ps sp) (hr : Room k X.A) (B : Bin X.K C f op) (N : ∀ T ∈ Ts, NoSlot X.K op T) (hb : Binds X.K fd ps []) (hx : Passes CX X E) : OpR X (binaryOp op) (rOddR X.K C Ts sp E) := by
  rintro pins s σ H x y u v Q I rx ry ⟨a, dx, fs, T, rfl, ha, hT, ty, q⟩
  cases rx
  obtain ⟨od, J⟩ := inst I ha
  exact binT0 I.kIn J B.first (typed I ry ty) B.at_ B.fn ((N T hT).fills I.kIn) (back (run2 (x := .ref a) F hr hb hx I rfl ry q))
end
end Own
namespace Own
open PySem PySem.Spec PyProof.Rows
section
variable {prog : Program} {w : World} {A : Around} {E : Value → Shared → Prop} {s : Shared} {K : PySem.W.Frag} {x C dx f f0 : Addr} {od : Option Obj} {op : Operator} {id : String}
theorem declB_add {b : Bool} {Q : Shared → Prop} (h : s.heap.get? x = some (PySem.W.instObj C dx)) (hq : Q s) :
    wpAny (model prog w) A (Builtin.«int.__add__» ⟨[.bool b, .ref x], []⟩) (fun fin s' => ∃ v, fin = .done (.ret v) ∧ v = .notImplemented ∧ Q s') E s := by
  obtain ⟨hp, g, d, tk, os⟩ := s
  wp_walk using wpAny_load h
  exact ⟨_, rfl, rfl, hq⟩
theorem declB_sub {b : Bool} {Q : Shared → Prop} (h : s.heap.get? x = some (PySem.W.instObj C dx)) (hq : Q s) :
    wpAny (model prog w) A (Builtin.«int.__sub__» ⟨[.bool b, .ref x], []⟩) (fun fin s' => ∃ v, fin = .done (.ret v) ∧ v = .notImplemented ∧ Q s') E s := by
  obtain ⟨hp, g, d, tk, os⟩ := s
  wp_walk using wpAny_load h
  exact ⟨_, rfl, rfl, hq⟩
theorem declB_mul {b : Bool} {Q : Shared → Prop} (h : s.heap.get? x = some (PySem.W.instObj C dx)) (hq : Q s) :
    wpAny (model prog w) A (Builtin.«int.__mul__» ⟨[.bool b, .ref x], []⟩) (fun fin s' => ∃ v, fin = .done (.ret v) ∧ v = .notImplemented ∧ Q s') E s := by
  obtain ⟨hp, g, d, tk, os⟩ := s
  wp_walk using wpAny_load h
  exact ⟨_, rfl, rfl, hq⟩
theorem slotB_add : Slot "bool" "__add__" "int.__add__" :=
  .of (T := "bool") (name := "__add__") (owner := "int") (n := "__add__") (by rw [typeLookup_type, builtinLookup_eq_fast]; kernel_rfl) (by decide +kernel) (by decide +kernel) (by decide +kernel) (.inl (by decide +kernel)) (by rw [isSubtype_type]; kernel_rfl)
theorem slotB_sub : Slot "bool" "__sub__" "int.__sub__" :=
  .of (T := "bool") (name := "__sub__") (owner := "int") (n := "__sub__") (by rw [typeLookup_type, builtinLookup_eq_fast]; kernel_rfl) (by decide +kernel) (by decide +kernel) (by decide +kernel) (.inl (by decide +kernel)) (by rw [isSubtype_type]; kernel_rfl)
theorem slotB_mul : Slot "bool" "__mul__" "int.__mul__" :=
  .of (T := "bool") (name := "__mul__") (owner := "int") (n := "__mul__") (by rw [typeLookup_type, builtinLookup_eq_fast]; kernel_rfl) (by decide +kernel) (by decide +kernel) (by decide +kernel) (.inl (by decide +kernel)) (by rw [isSubtype_type]; kernel_rfl)
end
end Own
namespace Own
open PySem PySem.Spec PyProof.Rows
section
variable {prog : Program} {w : World} {A : Around} {E : Value → Shared → Prop} {s : Shared} {K : PySem.W.Frag} {x C dx f f0 : Addr} {od : Option Obj} {op : Operator} {id : String}
/-- a truth declines an operator beside an instance, then the instance's reflected one is asked -/
theorem binRB {p : Bool} {Q : Value → Shared → Prop} (KX : K.In s.heap) (I : PySem.W.InstAt s.heap x (PySem.W.instObj C dx) C od) (hc : PySem.W.selfFirst K C = true)
    (h0 : PySem.W.findIn K (.ref C) (PySem.dunder op.info.2) = some (some (.ref f0))) (h1 : PySem.W.findIn K (.ref C) (dunderR op.info.2) = some (some (.ref f))) (hf : PySem.W.isFn K (.ref f) = true)
    (hsub : PySem.W.subIn K (.ref C) (.type "bool") = some false) (hfill : fillsNumberSlot (.type "bool") op.info.2 = pure true) (slot : Slot "bool" (PySem.dunder op.info.2) id)
    (decl : wpAny (model prog w) A (call (.builtin id) [.bool p, .ref x]) (fun v s' => v = .notImplemented ∧ s'.heap = s.heap ∧ s'.gens = s.gens ∧ s'.drawn = s.drawn ∧ s'.os = s.os ∧ s'.toks = s.toks) E s)
    (h : wpAny (model prog w) A (call (.ref f) [.ref x, .bool p]) (PySem.W.CmpBack Q) E s) : wpAny (model prog w) A (binaryOp op (.bool p) (.ref x)) Q E s := by
  obtain ⟨cd, rest, hcd, hm⟩ := PySem.W.ksp_first hc
  rcases hi : op.info with ⟨sym, nm⟩
  rw [hi] at h0 h1 hfill slot
  dsimp only at h0 h1 hfill slot
  have two := PySem.W.ksp_try KX I h1 hf h
  obtain ⟨hh, g, d, tt, os⟩ := s
  have L1 : PySem.W.Looks (model prog w) hh (typeOf (.ref x)) (.ref C) := I.type
  have L3 : PySem.W.Looks (model prog w) hh (fillsNumberSlot (.ref C) nm) true := PySem.W.fills_K KX hcd hm h0
  have L5 : PySem.W.Looks (model prog w) hh (isSubtype (.ref C) (.type "bool")) false := PySem.W.looks_subIn KX hsub
  have hne : (Value.type "bool" == Value.ref C) = false := Bool.eq_false_iff.mpr fun q => by cases beq_iff_eq.mp q
  have hpy : numberSlotInPython (.type "bool") nm = pure false := rfl
  have one : wpAny (model prog w) A (tryMethod (.bool p) (PySem.dunder nm) (.ref x)) (fun r s' => r = none ∧ s'.heap = hh ∧ s'.gens = g ∧ s'.drawn = d ∧ s'.os = os ∧ s'.toks = tt) E ⟨hh, g, d, tt, os⟩ :=
    wpAny_tryMethod_declines (T := "bool") (typeIs_bool' _ p) slot (wpAny_mono decl (fun v s' q => ⟨q.1, rfl, q.2⟩) fun _ _ e => e)
  simp only [binaryOp, hi]
  refine wpAny_holding (wpAny_bind ?_)
  unfold binaryOp1
  refine wpAny_bind (wpAny_typeOf (typeIs_bool' _ p) (wpAny_bind (L1.at (wpAny_bind (wpAny_of_eq hfill ?_)))))
  simp only [hne, Bool.false_eq_true, if_false]
  refine wpAny_bind (L3.at ?_)
  simp only [Bool.and_self, if_true]
  refine wpAny_bind (L5.at ?_)
  simp only [Bool.false_eq_true, if_false, pure_bind, Bool.not_false, Bool.and_self, if_true, hpy]
  refine wpAny_bind (wpAny_mono one (fun r s' q => ?_) fun _ _ e => e)
  obtain ⟨h1, g1, d1, t1, o1⟩ := s'
  obtain ⟨rfl, q1, q2, q3, q4, q5⟩ := q
  dsimp only at q1 q2 q3 q4 q5
  subst q1 q2 q3 q4 q5
  dsimp only
  refine wpAny_bind (wpAny_mono two (fun r s' q => ?_) fun _ _ e => e)
  obtain ⟨v, rfl, q⟩ := q
  exact wpAny_bind (wpAny_rule (wpAny_pure (wpAny_pure q)))
end
end Own
namespace Own
open PySem PySem.Spec PyProof.Rows L2
section
variable {X : Cx} {CX : CXT} {k : Nat} {f C : Addr} {fd : FuncData} {ps : List Str} {sp : Sp} {E : XK} {op : Operator}
def rRightB (C : Addr) (sp : Sp) (E : XK) : R2 := fun x y H Q => ∃ i a dx fs, x = .bl i ∧ y = .ref a ∧ H a = some (.ins C dx fs) ∧ sp [.ref a, .bl i] H Q E
theorem opRB_of {id : String} {B : Builtin} (hfill : fillsNumberSlot (.type "bool") op.info.2 = pure true) (slot : Slot "bool" (PySem.dunder op.info.2) id) (entry : entryFor table id = some B) (args : ∀ a b : Value, argsOk id ⟨[a, b], []⟩)
    (decl : ∀ {prog : Program} {w : World} {A : Around} {E : Value → Shared → Prop} {s : Shared} {x C dx : Addr} {p : Bool} {Q : Shared → Prop}, s.heap.get? x = some (PySem.W.instObj C dx) → Q s →
      wpAny (model prog w) A (B ⟨[.bool p, .ref x], []⟩) (fun fin s' => ∃ v, fin = .done (.ret v) ∧ v = .notImplemented ∧ Q s') E s)
    (F : FnOk X.prog X.w X.K X.mg X.base CX k f fd ps sp) (hr : Room k X.A) (Z : BinR X.K C f op) (zb : PySem.W.subIn X.K (.ref C) (.type "bool") = some false) (hb : Binds X.K fd ps []) (hx : Passes CX X E) : OpR X (binaryOp op) (rRightB C sp E) := by
  rintro pins s σ H x y u v Q I rx ry ⟨i, a, dx, fs, rfl, rfl, ha, q⟩
  cases (show u = Value.bool i from rx)
  cases ry
  obtain ⟨od, J⟩ := inst I ha
  obtain ⟨z1, ⟨f0, z2⟩, z3, z4, z5⟩ := Z
  exact binRB I.kIn J z1 z2 z3 z4 zb hfill slot (wpAny_call_entry slot (typeIs_bool' s i) entry (wpAny_mono (decl (Q := fun s' => s'.heap = s.heap ∧ s'.gens = s.gens ∧ s'.drawn = s.drawn ∧ s'.os = s.os ∧ s'.toks = s.toks) J.at_ ⟨rfl, rfl, rfl, rfl, rfl⟩) (fun fin s' ⟨v, e, q⟩ => ⟨v, e, q⟩) fun _ _ e => e) (args _ _))
    (back (run2 (x := .ref a) (y := .bl i) F hr hb hx I rfl rfl q))
theorem opRBadd (F : FnOk X.prog X.w X.K X.mg X.base CX k f fd ps sp) (hr : Room k X.A) (Z : BinR X.K C f .Add) (zb : PySem.W.subIn X.K (.ref C) (.type "bool") = some false) (hb : Binds X.K fd ps []) (hx : Passes CX X E) : OpR X (binaryOp .Add) (rRightB C sp E) :=
  opRB_of PySem.F.fills_bool_add slotB_add PySem.F.entry_int_add PySem.F.args_int_add_2 declB_add F hr Z zb hb hx
theorem opRBsub (F : FnOk X.prog X.w X.K X.mg X.base CX k f fd ps sp) (hr : Room k X.A) (Z : BinR X.K C f .Sub) (zb : PySem.W.subIn X.K (.ref C) (.type "bool") = some false) (hb : Binds X.K fd ps []) (hx : Passes CX X E) : OpR X (binaryOp .Sub) (rRightB C sp E) :=
  opRB_of PySem.F.fills_bool_sub slotB_sub PySem.F.entry_int_sub PySem.F.args_int_sub_2 declB_sub F hr Z zb hb hx
theorem opRBmul (F : FnOk X.prog X.w X.K X.mg X.base CX k f fd ps sp) (hr : Room k X.A) (Z : BinR X.K C f .Mult) (zb : PySem.W.subIn X.K (.ref C) (.type "bool") = some false) (hb : Binds X.K fd ps []) (hx : Passes CX X E) : OpR X (binaryOp .Mult) (rRightB C sp E) :=
  opRB_of PySem.F.fills_bool_mul slotB_mul PySem.F.entry_int_mul PySem.F.args_int_mul_2 declB_mul F hr Z zb hb hx
end
end Own
/-! ## [x for x, b in zip(xs, bs) if b], bs a list of truths -/
namespace Rd
open PySem PySem.Spec PyProof.Rows L2
theorem wipe2 {σ : L2.St} {i j : Nat} {a b : Option V} (h : i ≠ j) : wipe (((wipe σ [i, j]).set i a).set j b) [i, j] = wipe σ [i, j] := by
  show (((((σ.set j none).set i none).set i a).set j b).set j none).set i none = (σ.set j none).set i none
  rw [List.set_set, List.set_set, List.set_comm _ _ h, List.set_set, List.set_set]
theorem lcZip {names : List V} {bs : List Bool} {K : PySem.W.Frag} {a b : Addr} {i1 i2 j1 j2 : Nat} {σ : L2.St} {H : Hp} {Q : VK} (hl : names.length = bs.length) (hn : names.length ≤ 1000) (e1 : σ[j1]? = some (some (.ref a))) (e2 : σ[j2]? = some (some (.ref b)))
    (h1 : SqL K H a names) {ws : List V} (h2' : SqL K H b ws) (ew : ws = bs.map V.bl)
    (hij : i1 ≠ i2) (li : i1 < σ.length) (lj : i2 < σ.length)
    (k : ∀ (p : Addr) (H' : Hp), H p = none → Same H H' → H' p = some (.lst (((names.zip bs).filter (·.2)).map (·.1))) → Q (.ref p) H') :
    tLc (iZip K (tCons (tVar j1) (tCons (tVar j2) tNil))) (gTup K 2 (gCons (gName i1) (gCons (gName i2) gNil))) (tB (tVar i2)) (tVar i1) [i1, i2] σ H Q := by
  subst ew
  have h2 := h2'
  have hw : ∀ x y, wipe (((wipe σ [i1, i2]).set i1 (some x)).set i2 (some y)) [i1, i2] = wipe σ [i1, i2] := fun x y => wipe2 hij
  have g1 : ∀ x y, (((wipe σ [i1, i2]).set i1 (some x)).set i2 (some y))[i1]? = some (some x) := fun x y => by
    rw [List.getElem?_set_ne (Ne.symm hij), List.getElem?_set_self (by rw [wipe_length]; exact li)]
  have g2 : ∀ x y, (((wipe σ [i1, i2]).set i1 (some x)).set i2 (some y))[i2]? = some (some y) := fun x y => by
    rw [List.getElem?_set_self (by rw [List.length_set, wipe_length]; exact lj)]
  refine lc ⟨_, e1, _, e2, a, b, _, _, rfl, h1, h2, fun D hD => lc_it (walk_zip (n := names.length) (by rw [List.length_map, ← hl, Nat.min_self])) (fun t H' => Same H H' ∧ H' D = some (.lst ((((names.zip bs).take t).filter (·.2)).map (·.1)))) ⟨same_upd hD (Same.refl _), upd_same⟩
    (fun t H' _ p => ⟨p.1.seq h1, p.1.seq h2⟩) (fun t v H0 H' ht p y => ?_) (fun H' p => ?_)⟩
  · obtain ⟨S, hd⟩ := p
    obtain ⟨T, x, y, rfl, hT, rfl, hx, hy⟩ := y
    dsimp only at hx hy
    have htb : t < bs.length := by omega
    have ey : y = .bl bs[t] := by
      rw [List.getElem?_map, List.getElem?_eq_getElem htb] at hy
      exact (Option.some.inj hy).symm
    subst ey
    have ex : names[t] = x := by
      rw [List.getElem?_eq_getElem ht] at hx
      exact Option.some.inj hx
    have nd : D ≠ T := ne_of_none hd hT
    have S' : Same H (upd H0 T (.tup [x, .bl bs[t]])) := same_upd (Same.free S hT) S
    have hd' : upd H0 T (.tup [x, .bl bs[t]]) D = some (.lst ((((names.zip bs).take t).filter (·.2)).map (·.1))) := by rw [upd_ne nd]; exact hd
    have tk : (names.zip bs).take (t + 1) = (names.zip bs).take t ++ [(x, bs[t])] := by
      rw [List.take_add_one, List.getElem?_eq_getElem (by rw [List.length_zip]; omega), List.getElem_zip, ex]
      rfl
    refine gtup (SqT.of upd_same) rfl (gcons (name (gcons (name (gnil ⟨hw _ _, tb (var (g2 _ _) (bl ?_))⟩)))))
    cases hb : bs[t] with
    | true =>
      rw [hb] at hd' S' tk
      refine iteT rfl (var (g1 _ _) ⟨_, hd', ?_, same_upd hD S', ?_⟩)
      · rw [List.length_map]
        refine small1000 (Nat.le_trans (List.length_filter_le _ _) ?_)
        rw [List.length_take, List.length_zip]
        omega
      · rw [upd_same, tk, List.filter_append, List.map_append]
        rfl
    | false =>
      rw [hb] at hd' S' tk
      refine iteF rfl ⟨S', ?_⟩
      rw [hd', tk, List.filter_append, List.map_append]
      simp
  · obtain ⟨S, hd⟩ := p
    rw [List.take_of_length_le (by rw [List.length_zip]; omega)] at hd
    exact k D H' hD S hd
end Rd
/-! ## isinstance of a caught error whatever its class; a call of a def that a name holds, whatever it is -/
namespace Ex2
open PySem PySem.Spec PyProof.Rows L2
def rIsE2 (K : PySem.W.Frag) (cls : Value) (d : Option Addr) (a : Addr) : List V → Hp → VK → Prop := fun xs H Q => ∃ D, cls = .ref D ∧ d = none ∧ ExcC K D ∧ rIsE K D a xs H Q
theorem call_isE2 {X : Cx} {K : PySem.W.Frag} (eK : X.K = K) {a : Addr} {cls : Value} {d : Option Addr} {oe : Obj} {pn : List (Addr × Obj)} (hz : Zc cls d oe) (hf : ∃ vs, oe.data = .fields vs) : CallR (X.suite a ((a, oe) :: pn)) (.builtin "isinstance") (rIsE2 K cls d a) := by
  subst eK
  rintro pins s σ H xs us Q I r ⟨D, rfl, rfl, C, q⟩
  exact call_isE C hz hf pins s σ H xs us Q I r q
/-- a def at f keeps sp, and may let errors out as sp says -/
structure HeldX (P : Program) (w : World) (K : PySem.W.Frag) (mg : Str → Option Value) (base : Heap) (k : Nat) (f : Addr) (sp : Sp) : Prop where
  ex : ∃ (j : Nat) (fd : FuncData) (ps : List Str), j ≤ k ∧ FnOk P w K mg base (L2.CX P w) j f fd ps sp ∧ PySem.W.keepIn K (.ref f) = true ∧ Binds K fd ps []
def tCallX (P : Program) (w : World) (K : PySem.W.Frag) (mg : Str → Option Value) (base : Heap) (k i : Nat) (E : L2.St → XK) (t : TA) : TE := fun σ H Q => ∃ f sp, HeldX P w K mg base k f sp ∧ σ[i]? = some (some (.ref f)) ∧ t σ H fun vs H1 => sp vs H1 Q (E σ)
section
variable {X : Cx} {k i : Nat} {E : L2.St → XK} {x : Str} {p pos : Pos} {e : Expr} {es : List Expr} {t : TA}
theorem pe_callX {P : Program} {w : World} {K : PySem.W.Frag} {mg : Str → Option Value} {base : Heap} (e1 : X.prog = P) (e2 : X.w = w) (e3 : X.K = K) (e4 : X.mg = mg) (e5 : X.base = base) (hr : Room k X.A) (hN : X.N[i]? = some x) (hv : Vis X.env.scope x) (hx : ∀ σ, PassesAt (L2.CX X.prog X.w) X σ (E σ)) (ha : PA X (e :: es) t)
    (h1 : (x == ("__debug__" : Str)) = false := by decide) (h2 : (x == ("__classdict__" : Str)) = false := by decide) (h3 : starEach (e :: es) X.env = (false, eval e X.env) :: starEach es X.env := by rfl) (h4 : (backTo pos (starEach es X.env)).any (·.1) = false := by rfl) :
    PE X (.Call (.Name x p) (e :: es) [] pos) (tCallX P w K mg base k i E t) := by
  subst e1 e2 e3 e4 e5
  refine ⟨fun pins s σ H Q I ⟨f, sp, ⟨⟨j, fd, ps, hj, F, kp, bd⟩⟩, at_, rest⟩ => ?_⟩
  refine wpAny_Call_Name_kw (thn ((pe_var (pos := p) hN hv h1 h2).run pins s σ H (fun w1 Hq => w1 = .ref f ∧ Hq = H) I ⟨.ref f, at_, rfl, rfl⟩) fun u s1 ⟨w1, Hq, I1, r1, ⟨e1, e2⟩⟩ => ?_)
  subst e1 e2
  cases r1
  exact PySem.W.callWith_K (h₀ := X.base) I.ok.mod.kin kp (thn (ha.run pos pins s1 σ _ _ I1 rest) fun us s2 ⟨vs, H2, I2, r, q⟩ => ⟨I2.kIn, run_fnS F (hr.mono hj) bd (hx σ) I2 r q⟩) h3 h4
end
end Ex2
/-! ## objects that are no integers; loops over written lists; one item of a list of anything -/
namespace Rd
open PySem PySem.Spec PyProof.Rows L2
def TS1 : List String := ["NoneType", "tuple", "list", "dict"]
/-- an address is marked as the source's -/
def IsSrc (_ : Addr) : Prop := True
def TS0 : List String := ["NoneType", "str", "tuple", "list", "dict"]
/-- none, a text, a tuple, a list of another length than two, a dict -/
inductive OddN (H : Hp) : V → Prop where
  | non : OddN H .non
  | str (x : Str) : OddN H (.str x)
  | tup {p : Addr} {xs : List V} (e : H p = some (.tup xs)) : OddN H (.ref p)
  | lst {p : Addr} {xs : List V} (e : H p = some (.lst xs)) (n : xs.length ≠ 2) : OddN H (.ref p)
  | dK {p : Addr} {kvs : List (Key × V)} (e : H p = some (.dK kvs)) : OddN H (.ref p)
theorem OddN.ty {K : PySem.W.Frag} {H : Hp} {v : V} : OddN H v → ∃ T, T ∈ TS0 ∧ TyX K H v (.type T)
  | .non => ⟨_, by decide, .base .non⟩
  | .str x => ⟨_, by decide, .base (.str x)⟩
  | .tup e => ⟨_, by decide, .base (.tup e)⟩
  | .lst e _ => ⟨_, by decide, .base (.lst e)⟩
  | .dK e => ⟨_, by decide, .base (.dK e)⟩
theorem OddN.same {H H' : Hp} {v : V} (S : Same H H') : OddN H v → OddN H' v
  | .non => .non
  | .str x => .str x
  | .tup e => .tup (S _ _ e)
  | .lst e n => .lst (S _ _ e) n
  | .dK e => .dK (S _ _ e)
theorem OddN.ty1 {K : PySem.W.Frag} {H : Hp} {v : V} : OddN H v → (∃ x, v = .str x) ∨ ∃ T, T ∈ TS1 ∧ TyX K H v (.type T)
  | .non => .inr ⟨_, by decide, .base .non⟩
  | .str x => .inl ⟨_, rfl⟩
  | .tup e => .inr ⟨_, by decide, .base (.tup e)⟩
  | .lst e _ => .inr ⟨_, by decide, .base (.lst e)⟩
  | .dK e => .inr ⟨_, by decide, .base (.dK e)⟩
theorem OddN.new {H : Hp} {v : V} {p : Addr} {o : HO} (n : H p = none) (h : OddN H v) : OddN (upd H p o) v := h.same fun b u e => by
  rw [upd_ne (ne_of_none e n)]; exact e
theorem OddN.two {H : Hp} {v : V} {a : Addr} {x y : V} {o : HO} (e : H a = some (.lst [x, y])) (h : OddN H v) : OddN (upd H a o) v := by
  cases h with
  | non => exact .non
  | str x => exact .str x
  | tup q => exact .tup (by rw [upd_ne (ne_of q e (by intro z; cases z))]; exact q)
  | lst q n => exact .lst (by rw [upd_ne (ne_of q e (by intro z; cases z; exact n rfl))]; exact q) n
  | dK q => exact .dK (by rw [upd_ne (ne_of q e (by intro z; cases z))]; exact q)
theorem tyof_same {K : PySem.W.Frag} {H H' : Hp} {y : V} {t : Value} (S : Same H H') (h : TyOf K H y t) : TyOf K H' y t := by
  cases h with
  | non => exact .non
  | bl x => exact .bl x
  | int x => exact .int x
  | str x => exact .str x
  | flt x => exact .flt x
  | lst e => exact .lst (S _ _ e)
  | frz e => exact .frz (S _ _ e)
  | tup e => exact .tup (S _ _ e)
  | dK e => exact .dK (S _ _ e)
  | dT e => exact .dT (S _ _ e)
  | ins e c a n k m => exact .ins (S _ _ e) c a n k m
theorem tyx_same {K : PySem.W.Frag} {H H' : Hp} {y : V} {t : Value} (S : Same H H') (h : TyX K H y t) : TyX K H' y t := by
  cases h with
  | base b => exact .base (tyof_same S b)
  | byt b => exact .byt b
  | set e => exact .set (S _ _ e)
  | kList e c => exact .kList e c
  | kTuple e c => exact .kTuple e c
  | kDict e c => exact .kDict e c
  | fTuple e => exact .fTuple (S _ _ e)
  | fDict e => exact .fDict (S _ _ e)
theorem kit_TS_int {K : PySem.W.Frag} : ∀ T ∈ TS0, PySem.W.kitOne K (.type T) (.type "int") = some false := by
  intro T h
  simp only [TS0, List.mem_cons, List.not_mem_nil, or_false] at h
  rcases h with rfl | rfl | rfl | rfl | rfl
  exact kit_none_int
  exact kit_str_int
  exact kit_tuple_int
  exact kit_list_int
  exact kit_dict_int
/-- .. or a truth -/
def OddV (H : Hp) (v : V) : Prop := OddN H v ∨ ∃ b, v = .bl b
theorem OddV.same {H H' : Hp} {v : V} (S : Same H H') (h : OddV H v) : OddV H' v := h.imp (·.same S) id
theorem dp_ss {K : PySem.W.Frag} {H : Hp} {p : Addr} {a b : Str} (h : SqL K H p [.str a, .str b]) : Dp K H (.ref p) (.list [.str a, .str b]) := .lst h (.cons (.str _) (.cons (.str _) .nil))
theorem shaped_ss {a b : Str} (ha : PyData.strOk a = true) (hb : PyData.strOk b = true) : SeqAt.shaped (.list [.str a, .str b]) = true := by
  simp only [PySem.SeqAt.shaped, PySem.PyData.canLay0, PySem.PyData.canLayAll0, PySem.PyData.depth, PySem.PyData.depthAll, ha, hb]; rfl
theorem OddV.sameR {H H' : Hp} {v : V} (h : OddV H v) (S : Same H H') : OddV H' v := h.same S
theorem eqv_ss (a b : Str) : PyData.eqv (.list [.str a, .str b]) (.list [.str a, .str b]) = true := by simp [PyData.eqv, PyData.eqvAll]
/-- of a list of anything one item: what all its items keep -/
theorem pickV (P : Hp → V → Prop) {K : PySem.W.Frag} {H : Hp} {a : Addr} {xs : List V} {d : Int} {Q : VK} (e : SqL K H a xs) (hm : ∀ v ∈ xs, P H v) (h0 : 0 ≤ d) (h1 : d < (xs.length : Int))
    (k : ∀ v, v ∈ xs → P H v → Q v H) : rIxL K (.ref a) (.int d) H Q := by
  obtain ⟨j, rfl⟩ : ∃ j : Nat, d = (j : Int) := ⟨d.toNat, by omega⟩
  have hj : j < xs.length := by omega
  exact ixL e (atI_nat (List.getElem?_eq_getElem hj)) (k _ (List.getElem_mem hj) (hm _ (List.getElem_mem hj)))
theorem catL {H : Hp} {l b : Addr} {xs zs : List V} {Q : VK} (h1 : H l = some (.lst xs)) (h2 : H b = some (.lst zs)) (n : xs.length + zs.length ≤ 1000) (k : ∀ p, H p = none → Q (.ref p) (upd H p (.lst (xs ++ zs)))) : rCat (.ref l) (.ref b) H Q :=
  ⟨l, b, xs, zs, rfl, rfl, h1, h2, Nat.le_of_lt (small1000 n), k⟩
/-- a loop over a list that is known whole, turn by turn -/
def unr (K : PySem.W.Frag) (a : Addr) (all : List V) (g : TG) (tb : TS) (D : Ends) : List V → L2.St → Hp → Prop
  | [], σ, H => D.nx σ H
  | x :: xs, σ, H => g x σ H fun σ2 H2 => tb { D with nx := fun σ' H' => SqL K H' a all ∧ unr K a all g tb D xs σ' H', ct := fun σ' H' => SqL K H' a all ∧ unr K a all g tb D xs σ' H', bk := D.nx } σ2 H2
theorem unroll {K : PySem.W.Frag} {a : Addr} {all : List V} {g : TG} {tb : TS} {D : Ends} {σ : L2.St} {H : Hp} (h0 : SqL K H a all) (h : unr K a all g tb D all σ H) :
    ∃ W : Nat → Nat → L2.St → Hp → Prop, (∃ m, W 0 m σ H) ∧ ∀ i m σ H, W i m σ H →
      ((Itl K a).stop i H ∧ D.nx σ H) ∨ ((Itl K a).go i H ∧ ∃ N : L2.St → Hp → Prop, (∀ σ' H', N σ' H' → ∃ m', m' < m ∧ W (i + 1) m' σ' H') ∧ ∀ x H', (Itl K a).yld i H x H' → g x σ H' fun σ2 H2 => tb { D with nx := N, ct := N, bk := D.nx } σ2 H2) := by
  refine for_list (xs := all) (fun i σ H => SqL K H a all ∧ unr K a all g tb D (all.drop i) σ H) ⟨h0, h⟩ (fun i σ H _ p => p.1) (fun i x σ H hx p => ?_) (fun σ H p => ?_)
  · have hi : i < all.length := (List.getElem?_eq_some_iff.mp hx).1
    have e : all.drop i = x :: all.drop (i + 1) := by rw [List.drop_eq_getElem_cons hi]; congr 1; exact (List.getElem?_eq_some_iff.mp hx).2
    have q := p.2
    rw [e] at q
    exact q
  · have q := p.2
    rw [List.drop_length] at q
    exact q
theorem unroll2 {K : PySem.W.Frag} {a : Addr} {all : List V} {g : TG} {tb : TS} {D : Ends} {σ : L2.St} {H : Hp} (h0 : SqL K H a all) (h : unr K a all g tb D all σ H) :
    (∃ xs, SqL K H a xs) ∧ ∃ W : Nat → Nat → L2.St → Hp → Prop, (∃ m, W 0 m σ H) ∧ ∀ i m σ H, W i m σ H →
      ((Itl K a).stop i H ∧ D.nx σ H) ∨ ((Itl K a).go i H ∧ ∃ N : L2.St → Hp → Prop, (∀ σ' H', N σ' H' → ∃ m', m' < m ∧ W (i + 1) m' σ' H') ∧ ∀ x H', (Itl K a).yld i H x H' → g x σ H' fun σ2 H2 => tb { D with nx := N, ct := N, bk := D.nx } σ2 H2) := ⟨⟨_, h0⟩, unroll h0 h⟩
theorem unrCons {K : PySem.W.Frag} {a : Addr} {all : List V} {g : TG} {tb : TS} {D : Ends} {x : V} {xs : List V} {σ : L2.St} {H : Hp}
    (h : g x σ H fun σ2 H2 => tb { D with nx := fun σ' H' => SqL K H' a all ∧ unr K a all g tb D xs σ' H', ct := fun σ' H' => SqL K H' a all ∧ unr K a all g tb D xs σ' H', bk := D.nx } σ2 H2) : unr K a all g tb D (x :: xs) σ H := h
theorem unrNil {K : PySem.W.Frag} {a : Addr} {all : List V} {g : TG} {tb : TS} {D : Ends} {σ : L2.St} {H : Hp} (h : D.nx σ H) : unr K a all g tb D [] σ H := h
/-- {k: v} of written values -/
theorem disp1 {σ : L2.St} {H : Hp} {Q : VK} {i : Int} {x : V} (h : ∀ p, H p = none → Q (.ref p) (upd H p (.dK [(.inl i, x)]))) : tDisp [(tC (.int i), tC x)] σ H Q :=
  fun p np => ⟨upd_same, [(.inl i, x)], rfl, Nat.le_of_ble_eq_true rfl, by rw [upd_upd]; exact h p np⟩
theorem newK {σ : L2.St} {H : Hp} {Q : VK} (h : ∀ p, H p = none → Q (.ref p) (upd H p (.dK []))) : tDNewK σ H Q := h
theorem ty_str {b : Str} : ∀ u, RelV (.str b) u → typeOf u = pure (.type "str") := by
  intro u r
  obtain ⟨t, q⟩ := (show ∃ t, u = Value.str b t from r)
  cases q
  rfl
theorem ty_bl {b : Bool} : ∀ u, RelV (.bl b) u → typeOf u = pure (.type "bool") := by
  intro u r
  cases (show u = Value.bool b from r)
  rfl
end Rd
/-! ## static methods, called by their class; a def's promise that is its own body; small helpers -/
namespace Sta
open PySem PySem.Spec PyProof.Rows L2
structure SMet (K : PySem.W.Frag) (C : Addr) (m : Str) (f : Addr) : Prop where
  rd : PySem.W.readsIn K C (.type "type") = true
  ga : PySem.W.specialIn K (.ref C) "__getattribute__" = some (some (.builtin "type.__getattribute__"))
  at_ : ∃ p rest, PySem.W.findCls K (.ref C) (.type "type") m = some (.get (.builtin "staticmethod.__get__") (.ref p) .none (.ref C)) ∧ PySem.W.recIn K p "staticmethod" = some (.ref f :: rest)
  kp : PySem.W.keepIn K (.ref f) = true
def tSMeth (C : Addr) (sp : Sp) (dvs : List V) (E : XK) (ta : TE) (t : TA) : TE := fun σ H Q => ta σ H fun x H1 => x = .ref C ∧ t σ H1 fun vs H2 => sp (vs ++ dvs) H2 Q E
section
variable {X : Cx} {CX : CXT} {k : Nat} {C f : Addr} {fd : FuncData} {ps : List Str} {ds : List Value} {dvs : List V} {sp : Sp} {E : XK} {o e : Expr} {es : List Expr} {m : Str} {pos apos : Pos} {ta : TE} {t : TA} {pl : Sem Bool}
theorem getmeth_sm {pins : List (Addr × Obj)} {σ : L2.St} {H : Hp} {s : Shared} {A : Around} {E' : Value → Shared → Prop} {Q : Value × List Value → Shared → Prop} (I : Inv X pins σ H s) (c : SMet X.K C m f)
    (h : ∀ s', Inv X pins σ H s' → Q (.ref f, []) s') : wpAny (model X.prog X.w) A (getMethod (.ref C) m pl) Q E' s := by
  obtain ⟨p, rest, a1, a2⟩ := c.at_
  exact PySem.W.method_cls I.kIn c.ga (PySem.W.cls_bind I.kIn c.rd a1 (wpAny_call (PySem.W.sm_get (s := { s with toks := s.toks + 1 }) I.kIn a2 (PySem.W.handed_on rfl (h _ (I.tok _))))))
theorem pe_smeth (he : PE X o ta) (c : SMet X.K C m f) (F : FnOk X.prog X.w X.K X.mg X.base CX k f fd ps sp) (hr : Room k X.A) (hb : Binds X.K fd ps ds) (hd : Vals dvs ds) (hx : Passes CX X E) (ha : PA X (e :: es) t)
    (hst : starEach (e :: es) X.env = (false, eval e X.env) :: starEach es X.env := by rfl) (hpl : (backTo pos (starEach es X.env)).any (·.1) = false := by rfl)
    (ht : eval (.Call (.Attribute o m apos) (e :: es) [] pos) X.env = (do
      let ov ← eval o X.env
      standAt apos.atName
      let (f, first) ← holding [ov] (getMethod ov m pl)
      callWith pos f first (backTo pos (starEach (e :: es) X.env)) (backToKw pos (keywordEach [] X.env))) := by rfl) :
    PE X (.Call (.Attribute o m apos) (e :: es) [] pos) (tSMeth C sp dvs E ta t) := by
  refine ⟨fun pins s σ H Q I h => ?_⟩
  refine PySem.W.methodCall_KW (pl := pl) (thn (he.run pins s σ H _ I h) fun u s1 ⟨x, H1, I1, rx, ex, q⟩ => ?_) ht
  subst ex
  obtain rfl : u = Value.ref C := rx
  refine getmeth_sm I1 c fun s2 I2 => ?_
  refine PySem.W.callWith_K (first := []) (h₀ := X.base) I2.ok.mod.kin c.kp (thn (ha.run pos pins s2 σ H1 _ I2 q) fun us s3 ⟨vs, H2, I3, r, q2⟩ => ⟨I3.kIn, ?_⟩) hst hpl
  exact run_fn (us := us) (vs := vs) F hr hb hd hx I3 r q2
theorem pe_smeth0 (he : PE X o ta) (c : SMet X.K C m f) (F : FnOk X.prog X.w X.K X.mg X.base CX k f fd ps sp) (hr : Room k X.A) (hb : Binds X.K fd ps ds) (hd : Vals dvs ds) (hx : Passes CX X E)
    (ht : eval (.Call (.Attribute o m apos) [] [] pos) X.env = (do
      let ov ← eval o X.env
      standAt apos.atName
      let (f, first) ← holding [ov] (getMethod ov m pl)
      callWith pos f first (backTo pos (starEach [] X.env)) (backToKw pos (keywordEach [] X.env))) := by rfl) :
    PE X (.Call (.Attribute o m apos) [] [] pos) (tSMeth C sp dvs E ta tNil) := by
  refine ⟨fun pins s σ H Q I h => ?_⟩
  refine PySem.W.methodCall_KW (pl := pl) (thn (he.run pins s σ H _ I h) fun u s1 ⟨x, H1, I1, rx, ex, q⟩ => ?_) ht
  subst ex
  obtain rfl : u = Value.ref C := rx
  refine getmeth_sm I1 c fun s2 I2 => ?_
  exact PySem.W.callWith_K0 (first := []) I2.kIn c.kp (run_fn (us := []) (vs := []) F hr hb hd hx I2 .nil q)
/-- a def that may raise, called where nothing may leave -/
theorem passF {X : Cx} : Passes (L2.CX X.prog X.w) X E0 := fun _ _ _ _ _ _ _ ⟨_, _, _, _, _, _, _, _, _, _, _, _, z⟩ => z.elim
end
end Sta
namespace Rd
open PySem PySem.Spec PyProof.Rows L2
section
variable {σ : L2.St} {H : Hp} {Q : VK} {D : Ends} {K : PySem.W.Frag}
theorem smeth {C : Addr} {sp : Sp} {dvs : List V} {E : XK} {ta : TE} {t : TA} (h : ta σ H fun x H1 => x = .ref C ∧ t σ H1 fun vs H2 => sp (vs ++ dvs) H2 Q E) : Sta.tSMeth C sp dvs E ta t σ H Q := h
theorem m0 {r : V → List V → Hp → VK → Prop} {to : TE} (h : to σ H fun x H1 => (∃ a, x = .str a) ∧ r x [] H1 Q) : tM0 r to σ H Q := h
theorem m1 {r : V → List V → Hp → VK → Prop} {to te : TE} (h : to σ H fun x H1 => (∃ a, x = .str a) ∧ te σ H1 fun y H2 => r x [y] H2 Q) : tM1 r to te σ H Q := h
theorem fmt {te : TE} (h : te σ H fun x H1 => (∃ y : Str, x = .str y ∧ y.length ≤ sizeLine ∧ Q (.str y) H1) ∨ ∃ i : Int, x = .int i ∧ i.natAbs.log2 < 1920 ∧ Q (.str (toString i)) H1) : tFmt te σ H Q := h
theorem chainP {r' : R2} {tc : TE} {y : V} {c d : Bool} (h1 : ∀ Q' : VK, Q' (.bl d) H → tc σ H fun w' H4 => r' y w' H4 Q') (h : Q (.bl (c && d)) H) : if c = true then tc σ H (fun w' H4 => r' y w' H4 Q) else Q (.bl false) H := by
  cases c with
  | true => exact h1 Q h
  | false => exact h
theorem peN {X : Cx} {e : Expr} : PE X e (fun _ _ _ => False) := ⟨fun _ _ _ _ _ _ z => z.elim⟩
theorem ptN {X : Cx} {e : Expr} : PT X e (fun _ _ _ => False) := ⟨fun _ _ _ _ _ _ z => z.elim⟩
theorem via {sp : Sp} {vs : List V} {E : XK} (Post : V → Hp → Prop) (h1 : ∀ Q' : VK, (∀ v H', Post v H' → Q' v H') → sp vs H Q' E) (h2 : ∀ v H', Post v H' → Q v H') : sp vs H Q E := h1 Q h2
end
end Rd
/-! ## counting truths in a list -/
namespace Cnt
open PySem PySem.Spec PyProof.Rows L2
theorem bools_of : ∀ {bs : List Bool} {us : List Value}, Vals (bs.map V.bl) us → us = bs.map Value.bool
  | [], _, .nil => rfl
  | b :: bs, _, .cons r rs => by
    have e1 := bools_of rs
    have e2 : _ = Value.bool b := r
    rw [e2, e1]
    rfl
def isB (k : Bool) : Value → Bool
  | .bool b => b == k
  | _ => false
theorem count_isB (k : Bool) : ∀ bs : List Bool, (bs.map Value.bool).countP (isB k) = bs.count k
  | [] => rfl
  | b :: bs => by
    rw [List.map_cons, List.countP_cons, count_isB k bs, List.count_cons]
    rfl
section
variable {X : Cx}
def rCntB (K : PySem.W.Frag) : V → List V → Hp → VK → Prop := fun x xs H Q => ∃ (p : Addr) (bs : List Bool) (k : Bool), x = .ref p ∧ xs = [.bl k] ∧ SqL K H p (bs.map V.bl) ∧ Q (.int (bs.count k : Nat)) H
theorem mt_countB : MtR X "list.count" (rCntB X.K) := by
  intro pins s σ H x xs vv us Q Inv0 rx rxs told
  obtain ⟨p, bs, k, rfl, rfl, sq, goal⟩ := told
  cases rx
  obtain ⟨u, rfl, ru⟩ := rxs.one
  have eu : u = Value.bool k := ru
  subst eu
  obtain ⟨its, rv, ⟨⟨c0, d0, dat0, sl0⟩, n, at0, ec, ed, edat⟩, len0⟩ := Inv0.list sq
  simp only at ec edat
  subst ec edat
  have es := bools_of rv
  refine call_meets PySem.F.slot_list_count ⟨_, at0, rfl⟩ PySem.F.entry_list_count (PySem.F.args_list_count_2 _ _)
    (SeqAt.list_countAt p its.toArray n d0 sl0 (.bool k) (isB k)) ⟨at0, fun y hy => ?_, ?_⟩
  · have hm : y ∈ bs.map Value.bool := by rw [← es]; simpa using hy
    obtain ⟨b, _, rfl⟩ := List.mem_map.mp hm
    exact SeqAt.EqAt.bool_bool b k
  · have en : its.toArray.toList.countP (isB k) = bs.count k := by
      show its.countP (isB k) = _
      rw [es]
      exact count_isB k bs
    refine ⟨.int (bs.count k : Nat), H, Inv0.tok _, ⟨s.toks, ?_⟩, goal⟩
    show Value.int ((its.toArray.toList.countP (isB k) : Nat) : Int) s.toks = _
    rw [en]
end
end Cnt
/-! ## comprehensions over written sources, item by item; ways joined behind an if -/
namespace Rd
open PySem PySem.Spec PyProof.Rows L2
/-- what is left of a comprehension, item by item; st says that the source stands -/
def Rem (D : Addr) (g : TG) (tt : TT) (te : TE) (vs : List Nat) (σ : L2.St) (st Q : Hp → Prop) : List V → Hp → Prop
  | [], H => st H ∧ Q H
  | x :: r, H => st H ∧ g x (wipe σ vs) H fun σ2 H2 => wipe σ2 vs = wipe σ vs ∧ tt σ2 H2 fun b H3 => if b = true then te σ2 H3 fun y H4 => ∃ acc, H4 D = some (.lst acc) ∧ acc.length < sizeLine ∧ Rem D g tt te vs σ st Q r (upd H4 D (.lst (acc ++ [y]))) else Rem D g tt te vs σ st Q r H3
section
variable {σ : L2.St} {H : Hp} {Q : VK} {K : PySem.W.Frag} {D : Addr} {g : TG} {tt : TT} {te : TE} {vs : List Nat} {st Qd : Hp → Prop}
theorem rem_st {l : List V} (h : Rem D g tt te vs σ st Qd l H) : st H := by cases l <;> exact h.1
theorem remCons {x : V} {r : List V} (h0 : st H) (h : g x (wipe σ vs) H fun σ2 H2 => wipe σ2 vs = wipe σ vs ∧ tt σ2 H2 fun b H3 => if b = true then te σ2 H3 fun y H4 => ∃ acc, H4 D = some (.lst acc) ∧ acc.length < sizeLine ∧ Rem D g tt te vs σ st Qd r (upd H4 D (.lst (acc ++ [y]))) else Rem D g tt te vs σ st Qd r H3) : Rem D g tt te vs σ st Qd (x :: r) H := ⟨h0, h⟩
theorem remNil (h0 : st H) (h : Qd H) : Rem D g tt te vs σ st Qd [] H := ⟨h0, h⟩
theorem drop_at {l : List V} {i : Nat} {x : V} (h : l[i]? = some x) : l.drop i = x :: l.drop (i + 1) := by
  obtain ⟨hi, e⟩ := List.getElem?_eq_some_iff.mp h
  rw [List.drop_eq_getElem_cons hi, e]
/-- over a written list -/
theorem lcUnrL {Qa : Addr → Hp → Prop} {a : Addr} {xs : List V} (hs : SqL K H a xs) (h : ∀ D, H D = none → Rem D g tt te vs σ (fun H' => SqL K H' a xs) (fun H' => Qa D H') xs (upd H D (.lst []))) :
    (∃ xs, SqL K H a xs) ∧ ∀ D, H D = none → ∃ W : Nat → Nat → Hp → Prop, (∃ m, W 0 m (upd H D (.lst []))) ∧ ∀ t m H, W t m H →
      ((Itl K a).stop t H ∧ Qa D H) ∨ ((Itl K a).go t H ∧ ∃ Nx : Hp → Prop, (∀ H', Nx H' → ∃ m', m' < m ∧ W (t + 1) m' H') ∧ ∀ x H', (Itl K a).yld t H x H' → g x (wipe σ vs) H' fun σ2 H2 => wipe σ2 vs = wipe σ vs ∧ tt σ2 H2 fun b H3 =>
        if b = true then te σ2 H3 fun y H4 => ∃ acc, H4 D = some (.lst acc) ∧ acc.length < sizeLine ∧ Nx (upd H4 D (.lst (acc ++ [y]))) else Nx H3) :=
  ⟨⟨_, hs⟩, fun D hD => lc_list (xs := xs) (fun i H' => Rem D g tt te vs σ (fun H' => SqL K H' a xs) (fun H' => Qa D H') (xs.drop i) H') (h D hD) (fun _ _ _ p => rem_st p) (fun i x H' hx p => by rw [drop_at hx] at p; exact p.2) fun H' p => by
    rw [List.drop_length] at p
    exact p.2⟩
/-- over a written tuple -/
theorem lcUnrT {Qa : Addr → Hp → Prop} {a : Addr} {xs : List V} (hs : SqT K H a xs) (h : ∀ D, H D = none → Rem D g tt te vs σ (fun H' => SqT K H' a xs) (fun H' => Qa D H') xs (upd H D (.lst []))) :
    (∃ xs, SqT K H a xs) ∧ ∀ D, H D = none → ∃ W : Nat → Nat → Hp → Prop, (∃ m, W 0 m (upd H D (.lst []))) ∧ ∀ t m H, W t m H →
      ((Itt K a).stop t H ∧ Qa D H) ∨ ((Itt K a).go t H ∧ ∃ Nx : Hp → Prop, (∀ H', Nx H' → ∃ m', m' < m ∧ W (t + 1) m' H') ∧ ∀ x H', (Itt K a).yld t H x H' → g x (wipe σ vs) H' fun σ2 H2 => wipe σ2 vs = wipe σ vs ∧ tt σ2 H2 fun b H3 =>
        if b = true then te σ2 H3 fun y H4 => ∃ acc, H4 D = some (.lst acc) ∧ acc.length < sizeLine ∧ Nx (upd H4 D (.lst (acc ++ [y]))) else Nx H3) :=
  ⟨⟨_, hs⟩, fun D hD => lc_tup (xs := xs) (fun i H' => Rem D g tt te vs σ (fun H' => SqT K H' a xs) (fun H' => Qa D H') (xs.drop i) H') (h D hD) (fun _ _ _ p => rem_st p) (fun i x H' hx p => by rw [drop_at hx] at p; exact p.2) fun H' p => by
    rw [List.drop_length] at p
    exact p.2⟩
/-- the ints of a range -/
def rgV (lo : Int) : Nat → List V
  | 0 => []
  | n + 1 => .int lo :: rgV (lo + 1) n
theorem rgV_at : ∀ (n : Nat) (lo : Int) (i : Nat), i < n → (rgV lo n)[i]? = some (.int (lo + i))
  | n + 1, lo, 0, _ => by simp [rgV]
  | n + 1, lo, i + 1, h => by
    show (rgV (lo + 1) n)[i]? = _
    rw [rgV_at n (lo + 1) i (by omega)]
    congr 2
    omega
theorem rgV_len : ∀ (n : Nat) (lo : Int), (rgV lo n).length = n
  | 0, _ => rfl
  | n + 1, lo => by show (rgV (lo + 1) n).length + 1 = _; rw [rgV_len n]
theorem lcUnrR {Qa : Addr → Hp → Prop} {lo : Int} {n : Nat} (h : ∀ D, H D = none → Rem D g tt te vs σ (fun _ => True) (fun H' => Qa D H') (rgV lo n) (upd H D (.lst []))) :
    ∀ D, H D = none → ∃ W : Nat → Nat → Hp → Prop, (∃ m, W 0 m (upd H D (.lst []))) ∧ ∀ t m H, W t m H →
      ((Itr lo n).stop t H ∧ Qa D H) ∨ ((Itr lo n).go t H ∧ ∃ Nx : Hp → Prop, (∀ H', Nx H' → ∃ m', m' < m ∧ W (t + 1) m' H') ∧ ∀ x H', (Itr lo n).yld t H x H' → g x (wipe σ vs) H' fun σ2 H2 => wipe σ2 vs = wipe σ vs ∧ tt σ2 H2 fun b H3 =>
        if b = true then te σ2 H3 fun y H4 => ∃ acc, H4 D = some (.lst acc) ∧ acc.length < sizeLine ∧ Nx (upd H4 D (.lst (acc ++ [y]))) else Nx H3) :=
  fun D hD => lc_range (lo := lo) (n := n) (fun i H' => Rem D g tt te vs σ (fun _ => True) (fun H' => Qa D H') ((rgV lo n).drop i) H') (h D hD) (fun i H' hi p => by rw [drop_at (rgV_at n lo i hi)] at p; exact p.2) fun H' p => by
    rw [List.drop_of_length_le (by rw [rgV_len]; exact Nat.le_refl _)] at p
    exact p.2
theorem yes {q : Bool → Hp → Prop} (h : q true H) : tYes σ H q := h
/-- two ways of an if that meet -/
theorem ifJ {D : Ends} {c : TT} {t u : TS} (J : L2.St → Hp → Prop) (h1 : (∀ σ' H', J σ' H' → D.nx σ' H') → tIfS c t u D σ H) (h2 : ∀ σ' H', J σ' H' → D.nx σ' H') : tIfS c t u D σ H := h1 h2
/-- a heap known by facts alone, from here on -/
theorem comp {t : TS} {D : Ends} (P : Hp → Prop) (h0 : P H) (h : ∀ H', P H' → t D σ H') : t D σ H := h H h0
theorem truB {b : Bool} (e : b = true) (h : Q (.bl true) H) : Q (.bl b) H := by rw [e]; exact h
theorem cnt3 {p : Addr} {x y z k : Bool} (e : SqL K H p [.bl x, .bl y, .bl z]) (h : Q (.int (([x, y, z].count k : Nat) : Int)) H) : Cnt.rCntB K (.ref p) [.bl k] H Q := ⟨p, [x, y, z], k, rfl, rfl, e, h⟩
theorem feqF {a b c d : Int} (h1 : a = b) (h2 : c = d) : (!(decide (V.int a = V.int b) && decide (V.int c = V.int d))) = false := by
  rw [h1, h2, decide_eq_true rfl, decide_eq_true rfl]; rfl
theorem feqT {a b c d : Int} (h1 : a = b) (h2 : c = d) : (decide (V.int a = V.int b) && decide (V.int c = V.int d)) = true := by
  rw [h1, h2, decide_eq_true rfl, decide_eq_true rfl]; rfl
theorem neB {x y : Bool} (h : x = y) : (!decide (V.bl x = V.bl y)) = false := by rw [h, decide_eq_true rfl]; rfl
theorem tri (a b c d : Int) : (!decide (V.int (([decide (a < c ∨ a = c ∧ b < d), (decide (V.int a = V.int c) && decide (V.int b = V.int d)), decide (c < a ∨ c = a ∧ d < b)].count true : Nat) : Int) = V.int 1)) = false := by
  have e1 : decide (V.int a = V.int c) = decide (a = c) := by simp only [V.int.injEq]
  have e2 : decide (V.int b = V.int d) = decide (b = d) := by simp only [V.int.injEq]
  rw [e1, e2]
  rcases (by omega : a < c ∨ c < a ∨ (a = c ∧ b < d) ∨ (a = c ∧ d < b) ∨ (a = c ∧ b = d)) with h | h | ⟨h, g⟩ | ⟨h, g⟩ | ⟨h, g⟩
  · rw [decide_eq_true (show a < c ∨ a = c ∧ b < d by omega), decide_eq_false (show ¬ a = c by omega), decide_eq_false (show ¬ (c < a ∨ c = a ∧ d < b) by omega)]; rfl
  · rw [decide_eq_false (show ¬ (a < c ∨ a = c ∧ b < d) by omega), decide_eq_false (show ¬ a = c by omega), decide_eq_true (show (c < a ∨ c = a ∧ d < b) by omega)]; rfl
  · rw [decide_eq_true (show a < c ∨ a = c ∧ b < d by omega), decide_eq_false (show ¬ b = d by omega), Bool.and_false, decide_eq_false (show ¬ (c < a ∨ c = a ∧ d < b) by omega)]; rfl
  · rw [decide_eq_false (show ¬ (a < c ∨ a = c ∧ b < d) by omega), decide_eq_false (show ¬ b = d by omega), Bool.and_false, decide_eq_true (show (c < a ∨ c = a ∧ d < b) by omega)]; rfl
  · rw [decide_eq_false (show ¬ (a < c ∨ a = c ∧ b < d) by omega), decide_eq_true h, decide_eq_true g, decide_eq_false (show ¬ (c < a ∨ c = a ∧ d < b) by omega)]; rfl
theorem stepLt {a b c d t : Int} (h : 0 < t) : decide (a * t < c * t ∨ a * t = c * t ∧ b * t < d * t) = decide (a < c ∨ a = c ∧ b < d) := by
  have m1 : a * t < c * t ↔ a < c := Int.mul_lt_mul_right h
  have m2 : b * t < d * t ↔ b < d := Int.mul_lt_mul_right h
  have m3 : a * t = c * t ↔ a = c := ⟨fun e => Int.eq_of_mul_eq_mul_right (by omega) e, fun e => by rw [e]⟩
  rw [decide_eq_decide, m1, m2, m3]
theorem stepGt {a b c d t : Int} (h : 0 < t) : decide (a * (0 - t) < c * (0 - t) ∨ a * (0 - t) = c * (0 - t) ∧ b * (0 - t) < d * (0 - t)) = decide (c < a ∨ c = a ∧ d < b) := by
  have n : ∀ x : Int, x * (0 - t) = -(x * t) := fun x => by rw [Int.zero_sub, Int.mul_neg]
  have m1 : a * (0 - t) < c * (0 - t) ↔ c < a := by rw [n, n, Int.neg_lt_neg_iff]; exact Int.mul_lt_mul_right h
  have m2 : b * (0 - t) < d * (0 - t) ↔ d < b := by rw [n, n, Int.neg_lt_neg_iff]; exact Int.mul_lt_mul_right h
  have m3 : a * (0 - t) = c * (0 - t) ↔ c = a := ⟨fun e => (Int.eq_of_mul_eq_mul_right (by omega) e).symm, fun e => by rw [e]⟩
  rw [decide_eq_decide, m1, m2, m3]
end
end Rd
/-! ## schemes: words, dicts, written tuples, calls by keywords -/
namespace Rd
open PySem PySem.Spec PyProof.Rows L2
section
variable {σ : L2.St} {H : Hp} {Q : VK} {D : Ends} {K : PySem.W.Frag}
theorem mkK {C : Addr} {m : Nat} {sp : Sp} {gV : List V → List V → List V} {E : XK} {tk : TA} (h : tk σ H fun zs H2 => ([] : List V).length = 0 ∧ zs.length = m ∧ ∀ x dx, H2 x = none → H2 dx = none → dx ≠ x →
    sp (gV (.ref x :: []) zs) (upd (upd H2 dx (.own x)) x (.ins C dx [])) (fun v H3 => v = .non ∧ Q (.ref x) H3) E) : tMakeK C 0 m sp gV E tNil tk σ H Q := h
theorem dget {td ty : TE} (h : td σ H fun x H1 => ty σ H1 fun y H2 => ∃ a v, x = .ref a ∧ DGet H2 a y (some v) ∧ Q v H2) : tDGet td ty σ H Q := h
theorem dget2 {a : Addr} {kvs : List (Key × V)} {z : Str} {v : V} {R : V → Prop} (e : H a = some (.dK kvs)) (l : valV kvs (.inr z) = some v) (h : R v) : ∃ a' v, V.ref a = .ref a' ∧ DGet H a' (.str z) (some v) ∧ R v :=
  ⟨a, v, rfl, by have := DGet.k (k := Sum.inr z) e; rw [l] at this; exact this, h⟩
/-- a written tuple, whatever the heap -/
def SqTK (K : PySem.W.Frag) (a : Addr) (xs : List V) : Prop := ∀ H, SqT K H a xs
theorem SqTK.get {a : Addr} {xs : List V} (h : SqTK K a xs) : SqT K H a xs := h H
theorem inW {s : Str} {ws : List Str} (h : s ∈ ws) : inV (.str s) (ws.map V.str) = true := by
  unfold inV
  rw [List.any_eq_true]
  exact ⟨.str s, List.mem_map.mpr ⟨s, h, rfl⟩, by simp [eqV]⟩
theorem pickAny {a : Addr} {xs : List V} {d : Int} (e : SqL K H a xs) (h0 : 0 ≤ d) (h1 : d < (xs.length : Int)) (k : ∀ v, v ∈ xs → Q v H) : rIxL K (.ref a) (.int d) H Q := by
  obtain ⟨j, rfl⟩ : ∃ j : Nat, d = (j : Int) := ⟨d.toNat, by omega⟩
  have hj : j < xs.length := by omega
  exact ixL e (atI_nat (List.getElem?_eq_getElem hj)) (k _ (List.getElem_mem hj))
theorem bits {to : TE} (h : to σ H fun x H1 => ∃ i, x = .int i ∧ Q (.int (Builtin.Int.intBits i : Nat)) H1) : tBits to σ H Q := h
theorem tru {ta : TE} {q : Bool → Hp → Prop} (h : ta σ H fun x H' => ∃ k, TruV K x H' k ∧ q k H') : (fun σ H Q => ta σ H fun x H' => ∃ k, TruV K x H' k ∧ Q k H' : TT) σ H q := h
theorem truI {i : Int} : TruV K (.int i) H (i != 0) := rfl
theorem rng2 {ta : TA} {R : It → Hp → Prop} (h : ta σ H fun vs H1 => ∃ i j : Int, vs = [.int i, .int j] ∧ (-(2 ^ 62) ≤ i ∧ i < 2 ^ 62 ∧ -(2 ^ 62) ≤ j ∧ j < 2 ^ 62) ∧ R (Itr i (j - i).toNat) H1) : iRng2 ta σ H R := h
theorem notF {b : Bool} (h : b = true) : (!b) = false := by rw [h]; rfl
theorem inT {p : Addr} {x : V} {xs : List V} (e : SqL K H p xs ∨ SqT K H p xs) (f1 : flatV x = true) (f2 : xs.all flatV = true) (h : Q (.bl (inV x xs)) H) : rIn K false x (.ref p) H Q := ⟨p, xs, rfl, e, f1, f2, h⟩
theorem kt_int_int {K : PySem.W.Frag} : PySem.W.kitOne K (.type "int") (.type "int") = some true := kit_ty (by decide +kernel)
theorem kt_int_bool {K : PySem.W.Frag} : PySem.W.kitOne K (.type "int") (.type "bool") = some false := kit_ty (by decide +kernel)
theorem kt_int_str {K : PySem.W.Frag} : PySem.W.kitOne K (.type "int") (.type "str") = some false := kit_ty (by decide +kernel)
theorem kt_int_tuple {K : PySem.W.Frag} : PySem.W.kitOne K (.type "int") (.type "tuple") = some false := kit_ty (by decide +kernel)
theorem kt_int_list {K : PySem.W.Frag} : PySem.W.kitOne K (.type "int") (.type "list") = some false := kit_ty (by decide +kernel)
theorem kt_int_dict {K : PySem.W.Frag} : PySem.W.kitOne K (.type "int") (.type "dict") = some false := kit_ty (by decide +kernel)
theorem kt_bool_int {K : PySem.W.Frag} : PySem.W.kitOne K (.type "bool") (.type "int") = some true := kit_ty (by decide +kernel)
theorem kt_bool_bool {K : PySem.W.Frag} : PySem.W.kitOne K (.type "bool") (.type "bool") = some true := kit_ty (by decide +kernel)
theorem kt_bool_str {K : PySem.W.Frag} : PySem.W.kitOne K (.type "bool") (.type "str") = some false := kit_ty (by decide +kernel)
theorem kt_bool_tuple {K : PySem.W.Frag} : PySem.W.kitOne K (.type "bool") (.type "tuple") = some false := kit_ty (by decide +kernel)
theorem kt_bool_list {K : PySem.W.Frag} : PySem.W.kitOne K (.type "bool") (.type "list") = some false := kit_ty (by decide +kernel)
theorem kt_bool_dict {K : PySem.W.Frag} : PySem.W.kitOne K (.type "bool") (.type "dict") = some false := kit_ty (by decide +kernel)
theorem kt_str_int {K : PySem.W.Frag} : PySem.W.kitOne K (.type "str") (.type "int") = some false := kit_ty (by decide +kernel)
theorem kt_str_bool {K : PySem.W.Frag} : PySem.W.kitOne K (.type "str") (.type "bool") = some false := kit_ty (by decide +kernel)
theorem kt_str_str {K : PySem.W.Frag} : PySem.W.kitOne K (.type "str") (.type "str") = some true := kit_ty (by decide +kernel)
theorem kt_str_tuple {K : PySem.W.Frag} : PySem.W.kitOne K (.type "str") (.type "tuple") = some false := kit_ty (by decide +kernel)
theorem kt_str_list {K : PySem.W.Frag} : PySem.W.kitOne K (.type "str") (.type "list") = some false := kit_ty (by decide +kernel)
theorem kt_str_dict {K : PySem.W.Frag} : PySem.W.kitOne K (.type "str") (.type "dict") = some false := kit_ty (by decide +kernel)
theorem kt_NoneType_int {K : PySem.W.Frag} : PySem.W.kitOne K (.type "NoneType") (.type "int") = some false := kit_ty (by decide +kernel)
theorem kt_NoneType_bool {K : PySem.W.Frag} : PySem.W.kitOne K (.type "NoneType") (.type "bool") = some false := kit_ty (by decide +kernel)
theorem kt_NoneType_str {K : PySem.W.Frag} : PySem.W.kitOne K (.type "NoneType") (.type "str") = some false := kit_ty (by decide +kernel)
theorem kt_NoneType_tuple {K : PySem.W.Frag} : PySem.W.kitOne K (.type "NoneType") (.type "tuple") = some false := kit_ty (by decide +kernel)
theorem kt_NoneType_list {K : PySem.W.Frag} : PySem.W.kitOne K (.type "NoneType") (.type "list") = some false := kit_ty (by decide +kernel)
theorem kt_NoneType_dict {K : PySem.W.Frag} : PySem.W.kitOne K (.type "NoneType") (.type "dict") = some false := kit_ty (by decide +kernel)
theorem kt_tuple_int {K : PySem.W.Frag} : PySem.W.kitOne K (.type "tuple") (.type "int") = some false := kit_ty (by decide +kernel)
theorem kt_tuple_bool {K : PySem.W.Frag} : PySem.W.kitOne K (.type "tuple") (.type "bool") = some false := kit_ty (by decide +kernel)
theorem kt_tuple_str {K : PySem.W.Frag} : PySem.W.kitOne K (.type "tuple") (.type "str") = some false := kit_ty (by decide +kernel)
theorem kt_tuple_tuple {K : PySem.W.Frag} : PySem.W.kitOne K (.type "tuple") (.type "tuple") = some true := kit_ty (by decide +kernel)
theorem kt_tuple_list {K : PySem.W.Frag} : PySem.W.kitOne K (.type "tuple") (.type "list") = some false := kit_ty (by decide +kernel)
theorem kt_tuple_dict {K : PySem.W.Frag} : PySem.W.kitOne K (.type "tuple") (.type "dict") = some false := kit_ty (by decide +kernel)
theorem kt_list_int {K : PySem.W.Frag} : PySem.W.kitOne K (.type "list") (.type "int") = some false := kit_ty (by decide +kernel)
theorem kt_list_bool {K : PySem.W.Frag} : PySem.W.kitOne K (.type "list") (.type "bool") = some false := kit_ty (by decide +kernel)
theorem kt_list_str {K : PySem.W.Frag} : PySem.W.kitOne K (.type "list") (.type "str") = some false := kit_ty (by decide +kernel)
theorem kt_list_tuple {K : PySem.W.Frag} : PySem.W.kitOne K (.type "list") (.type "tuple") = some false := kit_ty (by decide +kernel)
theorem kt_list_list {K : PySem.W.Frag} : PySem.W.kitOne K (.type "list") (.type "list") = some true := kit_ty (by decide +kernel)
theorem kt_list_dict {K : PySem.W.Frag} : PySem.W.kitOne K (.type "list") (.type "dict") = some false := kit_ty (by decide +kernel)
theorem kt_dict_int {K : PySem.W.Frag} : PySem.W.kitOne K (.type "dict") (.type "int") = some false := kit_ty (by decide +kernel)
theorem kt_dict_bool {K : PySem.W.Frag} : PySem.W.kitOne K (.type "dict") (.type "bool") = some false := kit_ty (by decide +kernel)
theorem kt_dict_str {K : PySem.W.Frag} : PySem.W.kitOne K (.type "dict") (.type "str") = some false := kit_ty (by decide +kernel)
theorem kt_dict_tuple {K : PySem.W.Frag} : PySem.W.kitOne K (.type "dict") (.type "tuple") = some false := kit_ty (by decide +kernel)
theorem kt_dict_list {K : PySem.W.Frag} : PySem.W.kitOne K (.type "dict") (.type "list") = some false := kit_ty (by decide +kernel)
theorem kt_dict_dict {K : PySem.W.Frag} : PySem.W.kitOne K (.type "dict") (.type "dict") = some true := kit_ty (by decide +kernel)
theorem inW_iff {s : Str} {ws : List Str} : inV (.str s) (ws.map V.str) = decide (s ∈ ws) := by
  by_cases h : s ∈ ws
  · rw [inW h, decide_eq_true h]
  · rw [decide_eq_false h, Bool.eq_false_iff]
    intro e
    unfold inV at e
    rw [List.any_eq_true] at e
    obtain ⟨x, hx, e⟩ := e
    obtain ⟨t, ht, rfl⟩ := List.mem_map.mp hx
    have : t = s := by simpa [eqV] using e
    exact h (this ▸ ht)
theorem flatW (ws : List Str) : (ws.map V.str).all flatV = true := by
  rw [List.all_eq_true]
  intro x hx
  obtain ⟨t, _, rfl⟩ := List.mem_map.mp hx
  rfl
/-- a loop over a tuple that is known whole, turn by turn -/
def unrT (K : PySem.W.Frag) (a : Addr) (all : List V) (g : TG) (tb : TS) (D : Ends) : List V → L2.St → Hp → Prop
  | [], σ, H => D.nx σ H
  | x :: xs, σ, H => g x σ H fun σ2 H2 => tb { D with nx := fun σ' H' => SqT K H' a all ∧ unrT K a all g tb D xs σ' H', ct := fun σ' H' => SqT K H' a all ∧ unrT K a all g tb D xs σ' H', bk := D.nx } σ2 H2
theorem unrollT {a : Addr} {all : List V} {g : TG} {tb : TS} (h0 : SqT K H a all) (h : unrT K a all g tb D all σ H) :
    (∃ xs, SqT K H a xs) ∧ ∃ W : Nat → Nat → L2.St → Hp → Prop, (∃ m, W 0 m σ H) ∧ ∀ i m σ H, W i m σ H →
      ((Itt K a).stop i H ∧ D.nx σ H) ∨ ((Itt K a).go i H ∧ ∃ N : L2.St → Hp → Prop, (∀ σ' H', N σ' H' → ∃ m', m' < m ∧ W (i + 1) m' σ' H') ∧ ∀ x H', (Itt K a).yld i H x H' → g x σ H' fun σ2 H2 => tb { D with nx := N, ct := N, bk := D.nx } σ2 H2) := by
  refine ⟨⟨_, h0⟩, for_tup (xs := all) (fun i σ H => SqT K H a all ∧ unrT K a all g tb D (all.drop i) σ H) ⟨h0, h⟩ (fun i σ H _ p => p.1) (fun i x σ H hx p => ?_) (fun σ H p => ?_)⟩
  · have q := p.2
    rw [drop_at hx] at q
    exact q
  · have q := p.2
    rw [List.drop_length] at q
    exact q
theorem unrTCons {a : Addr} {all : List V} {g : TG} {tb : TS} {x : V} {xs : List V}
    (h : g x σ H fun σ2 H2 => tb { D with nx := fun σ' H' => SqT K H' a all ∧ unrT K a all g tb D xs σ' H', ct := fun σ' H' => SqT K H' a all ∧ unrT K a all g tb D xs σ' H', bk := D.nx } σ2 H2) : unrT K a all g tb D (x :: xs) σ H := h
theorem unrTNil {a : Addr} {all : List V} {g : TG} {tb : TS} (h : D.nx σ H) : unrT K a all g tb D [] σ H := h
/-- five written texts as keys -/
theorem disp5 {t1 t2 t3 t4 t5 : TE} {v1 v2 v3 v4 v5 : V} {k1 k2 k3 k4 k5 : Str} (h1 : ∀ H (R : VK), R v1 H → t1 σ H R) (h2 : ∀ H (R : VK), R v2 H → t2 σ H R) (h3 : ∀ H (R : VK), R v3 H → t3 σ H R) (h4 : ∀ H (R : VK), R v4 H → t4 σ H R) (h5 : ∀ H (R : VK), R v5 H → t5 σ H R)
    (h : ∀ p, H p = none → Q (.ref p) (upd H p (.dK (mergeK [] [(.inr k1, v1), (.inr k2, v2), (.inr k3, v3), (.inr k4, v4), (.inr k5, v5)])))) : tDisp [(tC (.str k1), t1), (tC (.str k2), t2), (tC (.str k3), t3), (tC (.str k4), t4), (tC (.str k5), t5)] σ H Q := by
  intro p np
  refine h1 _ _ (h2 _ _ (h3 _ _ (h4 _ _ (h5 _ _ ?_))))
  refine ⟨upd_same, [(.inr k1, v1), (.inr k2, v2), (.inr k3, v3), (.inr k4, v4), (.inr k5, v5)], rfl, Nat.le_of_ble_eq_true rfl, ?_⟩
  rw [upd_upd]
  exact h p np
theorem ixTK {X : Cx} {K : PySem.W.Frag} (e : X.K = K) : IxR X (rIxT K) := e ▸ ix_tup
theorem ixLK {X : Cx} {K : PySem.W.Frag} (e : X.K = K) : IxR X (rIxL K) := e ▸ ix_list
theorem tp0 {R : List (V × V) → Hp → Prop} (h : R [] H) : tPairs [] σ H R := h
theorem tp1 {tk tv : TE} {r : List (TE × TE)} {R : List (V × V) → Hp → Prop} (h : tk σ H fun x H1 => tv σ H1 fun y H2 => tPairs r σ H2 fun ps H3 => R ((x, y) :: ps) H3) : tPairs ((tk, tv) :: r) σ H R := h
theorem callS {sp : Sp} {E : L2.St → XK} {t : TA} (h : t σ H fun vs H1 => sp vs H1 Q (E σ)) : tCallS sp E t σ H Q := h
end
end Rd
/-! ## slices, lists again and again, lists of truths -/
namespace Rd
open PySem PySem.Spec PyProof.Rows L2
section
variable {σ : L2.St} {H : Hp} {Q : VK} {K : PySem.W.Frag}
theorem sl {r : V → Option Int → Option Int → Hp → VK → Prop} {te : TE} {tl th : TO} (h : te σ H fun x H1 => tl σ H1 fun l H2 => th σ H2 fun u H3 => r x l u H3 Q) : tSl r te tl th σ H Q := h
theorem noPart {R : Option Int → Hp → Prop} (h : R none H) : tNoPart σ H R := h
theorem part {te : TE} {R : Option Int → Hp → Prop} (h : te σ H fun x H1 => ∃ i, x = .int i ∧ R (some i) H1) : tPart te σ H R := h
theorem cut_take {xs : List V} {k : Nat} (h : k ≤ xs.length) : cutV xs none (some (k : Int)) = xs.take k := by
  unfold cutV
  have e0 : HT.sIx xs.length 0 none = 0 := rfl
  have e1 : HT.sIx xs.length xs.length (some (k : Int)) = k := by
    unfold HT.sIx
    have z : ¬ ((k : Int) < 0) := by omega
    simp [z]
    omega
  rw [e0, e1, List.drop_zero, Nat.sub_zero]
theorem dp_bools : ∀ (H : Hp) (bs : List Bool), DpAll K H (bs.map V.bl) (bs.map PyData.bool)
  | _, [] => .nil
  | H, _ :: r => .cons (.bl _) (dp_bools H r)
theorem dp_listB {H : Hp} {a : Addr} {bs : List Bool} (h : SqL K H a (bs.map V.bl)) : Dp K H (.ref a) (.list (bs.map PyData.bool)) := .lst h (dp_bools H bs)
theorem can_bools : ∀ bs : List Bool, PyData.canLayAll0 (bs.map PyData.bool) = true
  | [] => by simp [PyData.canLayAll0]
  | _ :: r => by simp only [List.map_cons, PyData.canLayAll0, PyData.canLay0, can_bools r, Bool.and_self]
theorem dep_bools : ∀ bs : List Bool, PyData.depthAll (bs.map PyData.bool) = 0
  | [] => by simp [PyData.depthAll]
  | _ :: r => by simp only [List.map_cons, PyData.depthAll, PyData.depth, dep_bools r, Nat.max_self]
theorem shaped_listB (bs : List Bool) : SeqAt.shaped (.list (bs.map PyData.bool)) = true := by
  simp only [SeqAt.shaped, PyData.canLay0, can_bools, PyData.depth, dep_bools]
  decide
theorem eqvAll_bools : ∀ as bs : List Bool, PyData.eqvAll (as.map PyData.bool) (bs.map PyData.bool) = decide (as = bs)
  | [], [] => by simp [PyData.eqvAll]
  | [], _ :: _ => by simp [PyData.eqvAll]
  | _ :: _, [] => by simp [PyData.eqvAll]
  | x :: r, y :: q => by
    simp only [List.map_cons, PyData.eqvAll, PyData.eqv, eqvAll_bools r q]
    cases x <;> cases y <;> simp
theorem eqv_listB (as bs : List Bool) : PyData.eqv (.list (as.map PyData.bool)) (.list (bs.map PyData.bool)) = decide (as = bs) := by
  simp only [PyData.eqv, eqvAll_bools]
/-- the parts of a set: a list, two ints, a list -/
def partsD (e r : List Int) (s p : Int) : PyData := .tuple [.list (e.map PyData.int), .int s, .int p, .list (r.map PyData.int)]
theorem dp_parts {H : Hp} {q a b : Addr} {e r : List Int} {s p : Int} (h : SqT K H q [.ref a, .int s, .int p, .ref b]) (ha : SqL K H a (e.map V.int)) (hb : SqL K H b (r.map V.int)) : Dp K H (.ref q) (partsD e r s p) :=
  .tup h (.cons (dp_listI ha) (.cons (.int _) (.cons (.int _) (.cons (dp_listI hb) .nil))))
theorem shaped_parts (e r : List Int) (s p : Int) : SeqAt.shaped (partsD e r s p) = true := by
  simp only [partsD, SeqAt.shaped, PyData.canLay0, PyData.canLayAll0, can_ints, PyData.depth, PyData.depthAll, dep_ints]
  decide
theorem eqv_parts (e r e' r' : List Int) (s p s' p' : Int) : PyData.eqv (partsD e r s p) (partsD e' r' s' p') = decide (e = e' ∧ s = s' ∧ p = p' ∧ r = r') := by
  simp only [partsD, PyData.eqv, PyData.eqvAll, eqvAll_ints, Bool.and_true]
  rw [Bool.eq_iff_iff]
  simp
end
/-! what a while's test asks grows with what is wished -/
def ME (t : TE) : Prop := ∀ (σ : L2.St) (H : Hp) (Q Q' : VK), (∀ v H1, Q v H1 → Q' v H1) → t σ H Q → t σ H Q'
def MT (c : TT) : Prop := ∀ (σ : L2.St) (H : Hp) (R R' : Bool → Hp → Prop), (∀ b H1, R b H1 → R' b H1) → c σ H R → c σ H R'
def MR (f : R2) : Prop := ∀ (x y : V) (H : Hp) (Q Q' : VK), (∀ v H1, Q v H1 → Q' v H1) → f x y H Q → f x y H Q'
def MA (t : TA) : Prop := ∀ (σ : L2.St) (H : Hp) (Q Q' : List V → Hp → Prop), (∀ v H1, Q v H1 → Q' v H1) → t σ H Q → t σ H Q'
theorem mVar {i : Nat} : ME (tVar i) := fun _ _ _ _ h ⟨v, e, q⟩ => ⟨v, e, h _ _ q⟩
theorem mC {v : V} : ME (tC v) := fun _ _ _ _ h q => h _ _ q
theorem mOp {r : R2} {a b : TE} (f : MR r) (ha : ME a) (hb : ME b) : ME (tOp r a b) := fun σ H _ _ h z => ha σ H _ _ (fun x H1 z1 => hb σ H1 _ _ (fun y H2 z2 => f x y H2 _ _ h z2) z1) z
theorem mI0 {g : Int → Int → V} : MR (rI0 g) := fun _ _ _ _ _ h ⟨i, j, e, e', q⟩ => ⟨i, j, e, e', h _ _ q⟩
theorem mI {C : Int → Int → Prop} {g : Int → Int → V} : MR (rI C g) := fun _ _ _ _ _ h ⟨i, j, e, e', c, q⟩ => ⟨i, j, e, e', c, h _ _ q⟩
theorem mIxL {K : PySem.W.Frag} : MR (rIxL K) := fun _ _ _ _ _ h ⟨p, xs, i, v, e, e', s, l, q⟩ => ⟨p, xs, i, v, e, e', s, l, h _ _ q⟩
theorem mEq : MR rEq := fun _ _ _ _ _ h ⟨e, q⟩ => ⟨e, h _ _ q⟩
theorem mNil : MA tNil := fun _ _ _ _ h q => h _ _ q
theorem mCons {a : TE} {t : TA} (ha : ME a) (ht : MA t) : MA (tCons a t) := fun σ H _ _ h z => ha σ H _ _ (fun x H1 z1 => ht σ H1 _ _ (fun vs H2 z2 => h _ _ z2) z1) z
theorem mLen {K : PySem.W.Frag} {t : TA} (ht : MA t) : ME (tCB (fun xs H Q => ∃ p ys, xs = [V.ref p] ∧ (SqL K H p ys ∨ SqT K H p ys) ∧ Q (V.int ys.length) H) t) := fun σ H _ _ h z => ht σ H _ _ (fun vs H1 ⟨p, ys, e, s, q⟩ => ⟨p, ys, e, s, h _ _ q⟩) z
theorem mTest {t : TE} (ht : ME t) : MT (tTest t) := fun σ H _ _ h z => ht σ H _ _ (fun x H1 ⟨k, e, q⟩ => ⟨k, e, h _ _ q⟩) z
theorem mAnd {t u : TT} (ht : MT t) (hu : MT u) : MT (tAnd t u) := fun σ H _ _ h z => ht σ H _ _ (fun b H1 z1 => by
  by_cases hb : b = true
  · rw [if_pos hb] at z1 ⊢
    exact hu σ H1 _ _ h z1
  · rw [if_neg hb] at z1 ⊢
    exact h _ _ z1) z
/-- a field's reading within a comprehension -/
theorem pe_fldK {X : Cx} {K : PySem.W.Frag} {e : PySem.Expr} {f : PySem.Str} {pos : PySem.Pos} {ta : TE} (ek : X.K = K) (h : PE X e ta) (hb : PySem.attributeBase e f X.env (PySem.eval e X.env) = PySem.eval e X.env) : PE X (e.Attribute f pos) (tFld K ta f) := ek ▸ pe_fld h hb
theorem flat_intsL (ns : List Int) : (ns.map V.int).all flatV = true := by
  rw [List.all_eq_true]
  intro v hv
  obtain ⟨n, _, rfl⟩ := List.mem_map.mp hv
  rfl
theorem inV_intsL (i : Int) (ns : List Int) : inV (.int i) (ns.map V.int) = decide (i ∈ ns) := by
  unfold inV
  rw [List.any_map]
  induction ns with
  | nil => rfl
  | cons n ns ih =>
    rw [List.any_cons, ih]
    show (eqV (.int n) (.int i) || _) = _
    have e : eqV (.int n) (.int i) = decide (n = i) := by first | (simp [eqV]; done) | (simp [eqV]; rfl)
    rw [e]
    by_cases h : n = i
    · subst h; simp
    · have h' : ¬ i = n := fun z => h z.symm
      simp [h, h', List.mem_cons]
theorem mapAppL {ns : List Int} {v : Int} : ns.map V.int ++ [V.int v] = (ns ++ [v]).map V.int := by simp
theorem op_inK {X : Cx} {K : PySem.W.Frag} (e : X.K = K) : OpR X (PySem.compareOp .In) (rIn K false) := e ▸ op_in_seq
end Rd
/-! calls of an instance without arguments -/
namespace Own
open PySem PySem.Spec PyProof.Rows L2
theorem pe_callI0 {X : Cx} {CX : CXT} {k : Nat} {g C : Addr} {sp : Sp} {E : XK} {fe : Expr} {tf : TE} {pos : Pos} (hf : PE X fe tf) (c : StX.CallO X.K C g) (F : FnR X.prog X.w X.K X.mg X.base CX k g sp) (hr : Room k X.A) (hx : Passes CX X E)
    (ht : eval (.Call fe [] [] pos) X.env = (do callWith pos (← eval fe X.env) [] (backTo pos (starEach [] X.env)) (backToKw pos (keywordEach [] X.env))) := by rfl) : PE X (.Call fe [] [] pos) (tCallI C sp E tf tNil) := by
  refine ⟨fun pins s σ H Q I h => Call_ (thn (hf.run pins s σ H _ I h) fun u s1 z => ?_) ht⟩
  obtain ⟨y, H1, I1, ry, a, rfl, hi, q2⟩ := z
  cases ry
  refine StX.callO_of (args := backTo pos (starEach [] X.env)) rfl ?_
  obtain ⟨od, J⟩ : ∃ od, PySem.W.InstAt s1.heap a (PySem.W.instObj C hi.choose) C od := inst I1 hi.choose_spec.choose_spec
  refine wpAny_pure ?_
  exact ⟨⟨C, _, od, J, rfl⟩, StX.run_callO c F hr hx I1 (.inr hi) .nil q2⟩
end Own
namespace Own
open PySem PySem.Spec PyProof.Rows L2
/-- o[i] by the own __getitem__ -/
theorem pe_item {X : Cx} {CX : CXT} {k : Nat} {f C : Addr} {fd : FuncData} {ps : List Str} {sp : Sp} {E : XK} {a b : Expr} {ta tb : TE} {pos : Pos} (F : FnOk X.prog X.w X.K X.mg X.base CX k f fd ps sp) (hr : Room (k + 1) X.A) (B : Sp1 X.K C "__getitem__" f) (hfn : PySem.W.fnIn X.K f = true)
    (hb : Binds X.K fd ps []) (hx : Passes CX X E) (ha : PE X a ta) (hbb : PE X b tb)
    (hsl : ∀ o i, subscripted b true o i = runValue (.builtin "lifetime.subscript" ⟨[o, i], []⟩) := by intro _ _; with_unfolding_all rfl) :
    PE X (.Subscript a b pos) (tOp (fun x y H Q => ∃ a dx fs, x = .ref a ∧ H a = some (.ins C dx fs) ∧ sp [.ref a, y] H Q E) ta tb) := by
  refine ⟨fun pins s σ H Q I h => Subscript_ (binT ha hbb I h fun v u s2 x y H2 I2 rx ry q => ?_)⟩
  obtain ⟨a, dx, fs, rfl, ha', q⟩ := q
  cases rx
  obtain ⟨od, J⟩ := inst I2 ha'
  obtain ⟨m, hF⟩ := I2.fr
  exact PySem.W.sub_K hF I2.ok.mod.kin J B.at_ hfn B.fn (runIn (us := [.ref a, u]) (vs := [.ref a, y]) F hr hb hx I2 (.cons rfl (.cons ry .nil)) q) (hsl _ _)
end Own
/-! ## bool(o) by the own __bool__ (as in dq.lean) -/
namespace Own
open PySem PySem.Spec PyProof.Rows L2
section
variable {X : Cx} {CX : CXT} {k : Nat} {f f0 C : Addr} {fd : FuncData} {ps : List Str} {sp : Sp} {E : XK} {op : Operator}
theorem runIn2 {pins : List (Addr × Obj)} {σ : L2.St} {H : Hp} {s : Shared} {Q : VK} {us : List Value} {vs : List V} (F : FnOk X.prog X.w X.K X.mg X.base CX k f fd ps sp) (hr : Room (k + 2) X.A) (hb : Binds X.K fd ps []) (hx : Passes CX X E)
    (I : Inv X pins σ H s) (r : Vals vs us) (h : sp vs H Q E) : wpAny (model X.prog X.w) X.A.in1.in1 (PySem.call (.ref f) us) (EP X pins σ Q) X.xe s := by
  have hl : us.length = ps.length := by rw [← r.length]; exact F.len _ _ _ _ h
  have hb' := hb s us I.kIn (by simpa using hl)
  rw [List.append_nil] at hb'
  refine wpAny_call (codeAny_mono (F.run X.A.in1.in1 X.stack s H ⟨us, []⟩ us vs Q E hr.in1.in1 I.env0.in1.in1 hb' r h) fun r s' hq => ?_)
  cases r with
  | error e => exact hx pins σ H s e s' I hq
  | ok fl =>
    cases fl with
    | ret u => exact I.after hq
    | next => exact False.elim hq
    | brk => exact False.elim hq
    | cont => exact False.elim hq
theorem boolOwn (F : FnOk X.prog X.w X.K X.mg X.base CX k f fd ps sp) (hr : Room (k + 2) X.A) (B : Sp1 X.K C "__bool__" f) (hb : Binds X.K fd ps []) (hx : Passes CX X E) :
    CallR X (.type "bool") (fun xs H Q => ∃ a dx fs, xs = [.ref a] ∧ H a = some (.ins C dx fs) ∧ sp [.ref a] H (fun v H' => ∃ b, v = .bl b ∧ Q (.bl b) H') E) := by
  rintro pins s σ H xs us Q I rs ⟨a, dx, fs, rfl, ha, q⟩
  cases rs with
  | cons r rest =>
    cases rest
    cases r
    obtain ⟨od, J⟩ := inst I ha
    obtain ⟨m, hF⟩ := I.fr
    have tr : wpAny (model X.prog X.w) X.A.in1.in1 (truthy (.ref a)) (fun b s' => EP X pins σ Q (.bool b) s') X.xe s :=
      PySem.W.truthy_K hF I.ok.mod.kin J B.at_ B.fn (wpAny_mono (runIn2 (us := [.ref a]) (vs := [.ref a]) F hr hb hx I (.cons rfl .nil) q) (fun r s' hq => by
        obtain ⟨z, H', I', rz, b, rfl, q'⟩ := hq
        cases rz
        exact ⟨.bl b, H', I', rfl, q'⟩) fun _ _ e => e)
    refine callType_codes (Q₁ := fun obj s₁ => ∃ b, obj = Value.bool b ∧ EP X pins σ Q obj s₁) PySem.F.called_bool (PySem.F.typeCall_bool_1 _) PySem.F.entry_object_init ?_ ?_
    · refine codeAny_call_builtin PySem.F.called_bool.plain PySem.F.entry_bool_new (wpAny_of_eq (PySem.F.newCall_bool_1 _) ?_)
      unfold Builtin.«bool.__new__»
      have f1 := PySem.F.conv_sub_bool
      refine wpAny_bind (wpAny_of_eq (a := true) rfl ?_)
      rw [if_neg (by decide)]
      refine wpAny_bind (wpAny_of_eq f1 ?_)
      rw [if_neg (by decide)]
      refine wpAny_bind (wpAny_of_eq (a := [Value.ref a]) (by rfl) ?_)
      dsimp only
      refine wpAny_bind (wpAny_mono tr (fun b s' hq => ?_) fun _ _ e => e)
      exact wpAny_pure ⟨_, rfl, hq⟩
    · rintro obj s₁ ⟨b, rfl, hq⟩
      have hT : s₁.TypeIs (.bool b) "bool" := PyProof.Rows.typeIs_bool' s₁ b
      exact ⟨hT, PySem.F.args_object_init_2 _ _, object_init_meets PySem.F.called_bool.init.lookup PySem.F.called_bool.made PySem.F.newNe_bool X.prog X.w X.A.in1 _ s₁ ⟨hT, rfl, hq⟩⟩
end
end Own
/-! tuple * int, whatever the number: the tuple itself, an empty one, or a new one -/
namespace TupM
open PySem PySem.Spec PyProof.Rows L2
theorem mul_same (l : Addr) (items : Array Value) (n : Nat) (dd : Option Addr) (sl : Array (Option Value)) (x : Int) (u : Tok) (c0 : (decide (x < -(2 ^ 63)) || decide (x ≥ 2 ^ 63)) = false) (c1 : (items.isEmpty || x == 1) = true) :
    Meets (Builtin.«tuple.__mul__» ⟨[.ref l, .int x u], []⟩) (fun _ R s => s.heap.get? l = some { cls := .type "tuple", dict := dd, data := .seq items n, slots := sl } ∧ R (.ok (.ret (Value.ref l))) s) :=
  .of_wp fun prog w A R s h => by
    obtain ⟨hp, g, d, tk, os⟩ := s
    obtain ⟨hl, h⟩ := h
    have f1 := AutoSeq1.idx_int
    wp_walk using wpAny_loadPart' hl
    repeat (first
      | (refine wpAny_ite_false (decide_eq_false (by rw [c0]; exact Bool.false_ne_true)) ?_; wp_walk using wpAny_loadPart' hl)
      | (refine wpAny_ite_true (decide_eq_true c1) ?_; wp_walk using wpAny_loadPart' hl))
    exact ⟨_, rfl, h⟩
theorem mul_none (l : Addr) (items : Array Value) (n : Nat) (dd : Option Addr) (sl : Array (Option Value)) (x : Int) (u : Tok) (c0 : (decide (x < -(2 ^ 63)) || decide (x ≥ 2 ^ 63)) = false) (c1 : (items.isEmpty || x == 1) = false) (c2 : (decide (x ≤ 0) || items.isEmpty) = true) :
    Meets (Builtin.«tuple.__mul__» ⟨[.ref l, .int x u], []⟩) (fun _ R s => s.heap.get? l = some { cls := .type "tuple", dict := dd, data := .seq items n, slots := sl } ∧
      R (.ok (.ret (Value.ref s.heap.objs.size))) { s with heap := s.heap.push { cls := Value.type "tuple", data := Data.seq #[] }, toks := s.toks }) :=
  .of_wp fun prog w A R s h => by
    obtain ⟨hp, g, d, tk, os⟩ := s
    obtain ⟨hl, h⟩ := h
    have f1 := AutoSeq1.idx_int
    wp_walk using wpAny_loadPart' hl
    repeat (first
      | (refine wpAny_ite_false (decide_eq_false (by rw [c0]; exact Bool.false_ne_true)) ?_; wp_walk using wpAny_loadPart' hl)
      | (refine wpAny_ite_false (decide_eq_false (by rw [c1]; exact Bool.false_ne_true)) ?_; wp_walk using wpAny_loadPart' hl)
      | (refine wpAny_ite_true (decide_eq_true c2) ?_; wp_walk using wpAny_loadPart' hl))
    exact ⟨_, rfl, h⟩
def rMulT (K : PySem.W.Frag) : R2 := fun x y H Q => ∃ l k xs, x = .ref l ∧ y = .int k ∧ SqT K H l xs ∧ 0 ≤ k ∧ k ≤ 1000 ∧ xs.length ≤ 1000 ∧ ((k = 1 ∨ xs = []) → Q (.ref l) H) ∧ ((k ≠ 1 ∧ xs ≠ []) → ∀ p, H p = none → Q (.ref p) (upd H p (.tup (List.replicate k.toNat xs).flatten)))
theorem op_mulT {X : Cx} : OpR X (binaryOp .Mult) (rMulT X.K) := by
  intro pins s σ H x y v u Q I rx ry h
  obtain ⟨l, k, xs, rfl, rfl, hT, h1, h2, hz, q1, q2⟩ := h
  by_cases big : 2 ≤ k ∧ xs ≠ []
  · exact op_repT pins s σ H _ _ _ _ Q I rx ry ⟨l, k, xs, rfl, rfl, hT, big.2, big.1, h2, hz, q2 ⟨by omega, big.2⟩⟩
  cases rx
  obtain ⟨t, rfl⟩ := ry
  obtain ⟨its, r, ⟨⟨cls, dd, data, sl⟩, ho, hc, n, hd⟩, hs⟩ := I.tuple hT
  simp only at hc hd
  subst hc hd
  have hle : its.length = xs.length := r.length.symm
  have c0 : (decide (k < -(2 ^ 63)) || decide (k ≥ 2 ^ 63)) = false := by
    rw [decide_eq_false (by omega), decide_eq_false (by omega)] <;> rfl
  have em : its.toArray.isEmpty = true ↔ xs = [] := by
    rw [List.isEmpty_toArray, List.isEmpty_iff, ← List.length_eq_zero_iff, hle, List.length_eq_zero_iff]
  by_cases one : k = 1 ∨ xs = []
  · have c1 : (its.toArray.isEmpty || k == 1) = true := by
      rcases one with e | e
      · rw [e]; simp
      · rw [em.mpr e, Bool.true_or]
    refine wpAny_binaryOp_repeat_ref (T := "tuple") (U := "int") (by decide) ⟨_, ho, rfl⟩ (fun s' => typeIs_int s' k t) noFill_tuple_mul F.fills_int_mul F.slot_int_rmul repeat_tuple F.slot_int_index.lookup
      (call_meets F.slot_int_rmul (typeIs_int s k t) F.entry_int_rmul (F.args_int_rmul_2 _ _) (int_rmul_tuple k t l its.toArray n dd sl)
        ⟨ho, rfl, ⟨_, ho, rfl⟩, call_meets F.slot_tuple_mul ⟨_, ho, rfl⟩ F.entry_tuple_mul (F.args_tuple_mul_2 _ _) (mul_same l its.toArray n dd sl k t c0 c1) ⟨ho, ?_⟩⟩)
    exact ⟨.ref l, H, I, rfl, q1 one⟩
  · have hne : xs ≠ [] := fun e => one (.inr e)
    have k0 : k = 0 := by
      rcases (by omega : k = 0 ∨ k = 1 ∨ 2 ≤ k) with e | e | e
      · exact e
      · exact absurd (.inl e) one
      · exact absurd ⟨e, hne⟩ big
    have ie : its.toArray.isEmpty = false := by
      rw [Bool.eq_false_iff]; exact fun z => hne (em.mp z)
    have c1 : (its.toArray.isEmpty || k == 1) = false := by
      rw [ie, Bool.false_or]; exact beq_eq_false_iff_ne.mpr (by omega)
    have c2 : (decide (k ≤ 0) || its.toArray.isEmpty) = true := by rw [decide_eq_true (by omega), Bool.true_or]
    refine wpAny_binaryOp_repeat_ref (T := "tuple") (U := "int") (by decide) ⟨_, ho, rfl⟩ (fun s' => typeIs_int s' k t) noFill_tuple_mul F.fills_int_mul F.slot_int_rmul repeat_tuple F.slot_int_index.lookup
      (call_meets F.slot_int_rmul (typeIs_int s k t) F.entry_int_rmul (F.args_int_rmul_2 _ _) (int_rmul_tuple k t l its.toArray n dd sl)
        ⟨ho, rfl, ⟨_, ho, rfl⟩, call_meets F.slot_tuple_mul ⟨_, ho, rfl⟩ F.entry_tuple_mul (F.args_tuple_mul_2 _ _) (mul_none l its.toArray n dd sl k t c0 c1 c2) ⟨ho, ?_⟩⟩)
    refine ⟨.ref s.heap.objs.size, _, I.laid (t' := s.toks) (o := .tup []) (fun b ob q => Heap.get?_push_of_some _ q) (Nat.le_refl _) ?_, rfl, ?_⟩
    · exact ⟨Nat.zero_le _, _, .nil, IsTup.new _ _⟩
    · have z := q2 ⟨by omega, hne⟩ _ (I.hok.fresh (Nat.le_refl _))
      rw [k0] at z
      exact z
end TupM
/-! defs with a star parameter behind self: their promise by what the body gets; making by such an __init__ -/
namespace StarP
open PySem PySem.Spec PyProof.Rows L2
/-- a promise told of the arguments as they are written -/
def starSp (n : Nat) (sp : Sp) : Sp := fun vs H Q E => ∃ ws rest, vs = ws ++ rest ∧ ws.length = n ∧ rest.length ≤ sizeLine ∧ ∀ p, H p = none → sp (ws ++ [V.ref p]) (upd H p (.tup rest)) Q E
theorem okStar {P : Program} {w : World} {K : PySem.W.Frag} {mg : Str → Option Value} {base : Heap} {x qual : Str} {st : Stmt} {f : Addr} {fd : FuncData} {N : List Str} {p1 pv : Str} {k : Nat} {sp : Sp} (F : Fun K x qual st f fd) (S : FnScope N [p1, pv] (defScope st))
    (hb : ∀ (kV doc pm : Value) (an : Option Addr) (cdv ct : Value) (us rest : List Value), us.length = [p1].length → bindArgs (PySem.W.fnOf x qual (defArgs st) (defBody st) (defScope st) .none kV doc pm an cdv ct) ⟨us ++ rest, []⟩ = (newTuple rest >>= fun t => pure ([p1].zip us ++ [(pv, t)])))
    (body : ∀ (cdv : Value) (A : Around) (outer : List Env) (s : Shared) (H : Hp) (vs : List V) (Q : VK) (E : XK), Room k (A.deeper (envOfC qual (defScope st) s.heap.objs.size f cdv)) → sp vs H Q E →
      ∃ t, PSs (cxOf (L2.CX P w) P w K mg base N qual (defScope st) f cdv A outer s H E) (defBody st) t ∧ t { nx := fun _ H' => Q .non H', rt := Q } (L2.start N vs) H) : FnR P w K mg base (L2.CX P w) (k + 1) f (starSp 1 sp) := by
  obtain ⟨oc, od, kV, doc, pm, an, cdv, ct, osl, rfl, lk, hcd⟩ := F.ex
  exact StX.fn_star (ps := [p1]) lk hcd S StX.cxUp (hb kV doc pm an cdv ct) (fun A outer s H vs Q E hr h => body cdv A outer s H vs Q E hr h)
section
variable {X : Cx} {CX : CXT} {k : Nat} {f C : Addr} {sp : Sp} {E : XK} {x : Str} {e : PySem.Expr} {te : TE} {p sp_ pos : Pos}
/-- C(*y) -/
def tMakeS (K : PySem.W.Frag) (C : Addr) (sp : Sp) (E : XK) (te : TE) : TE := fun σ H Q => te σ H fun y H1 => ∃ a xs, y = V.ref a ∧ (SqT K H1 a xs ∨ SqL K H1 a xs) ∧ ∀ x dx, H1 x = none → H1 dx = none → dx ≠ x →
  sp (V.ref x :: xs) (upd (upd H1 dx (.own x)) x (.ins C dx [])) (fun v H2 => v = .non ∧ Q (.ref x) H2) E
theorem pe_makeS1 (M : Mk X.K C f) (F : FnR X.prog X.w X.K X.mg X.base CX k f sp) (hr : Room (k + 1) X.A) (hg : Gl X x) (hm : X.mg x = some (.ref C)) (hx : Passes CX X E) (he : PE X e te) (hd : (x == ("__debug__" : Str)) = false := by decide)
    (hst : starEach [.Starred e sp_] X.env = [(true, eval e X.env)] := by rfl) : PE X (.Call (.Name x p) [.Starred e sp_] [] pos) (tMakeS X.K C sp E te) := by
  refine ⟨fun pins s σ H Q I h => ?_⟩
  refine wpAny_Call_Name_kw (ld_glob I hg hm ?_ hd)
  refine PySem.W.callWith_S (h₀ := X.base) I.ok.mod.kin M.kp (thn (he.run pins s σ H _ I h) fun v s1 ⟨y, H1, I1, ry, a, xs, ey, hxs, q⟩ => ?_) hst
  subst ey
  obtain rfl : v = Value.ref a := ry
  exact StX.star_any I1 hxs fun us s2 I2 rv => ⟨I2.kIn, StX.run_makeR M F hr hx I2 rv q⟩
/-- C() -/
def tMakeR0 (C : Addr) (sp : Sp) (E : XK) : TE := fun σ H Q => ∀ x dx, H x = none → H dx = none → dx ≠ x → sp [V.ref x] (upd (upd H dx (.own x)) x (.ins C dx [])) (fun v H2 => v = .non ∧ Q (.ref x) H2) E
theorem pe_makeR0 (M : Mk X.K C f) (F : FnR X.prog X.w X.K X.mg X.base CX k f sp) (hr : Room (k + 1) X.A) (hg : Gl X x) (hm : X.mg x = some (.ref C)) (hx : Passes CX X E) (hdb : (x == ("__debug__" : Str)) = false := by decide) :
    PE X (.Call (.Name x p) [] [] pos) (tMakeR0 C sp E) := by
  refine ⟨fun pins s σ H Q I h => ?_⟩
  refine wpAny_Call_Name_kw (ld_glob I hg hm ?_ hdb)
  exact PySem.W.callWith_K0 I.kIn M.kp (StX.run_makeR (us := []) (vs := []) M F hr hx I .nil h)
end
end StarP
namespace Rd
open PySem PySem.Spec PyProof.Rows L2
section
variable {C : Addr} {sp : Sp} {E : XK} {σ : L2.St} {H : Hp} {Q : VK}
theorem mkR {t : TA} (h : t σ H fun vs H1 => ∀ x dx, H1 x = none → H1 dx = none → dx ≠ x → sp (V.ref x :: vs) (upd (upd H1 dx (.own x)) x (.ins C dx [])) (fun v H2 => v = .non ∧ Q (.ref x) H2) E) : StX.tMakeR C sp E t σ H Q := h
theorem mkS1 {K : PySem.W.Frag} {te : TE} (h : te σ H fun y H1 => ∃ a xs, y = V.ref a ∧ (SqT K H1 a xs ∨ SqL K H1 a xs) ∧ ∀ x dx, H1 x = none → H1 dx = none → dx ≠ x → sp (V.ref x :: xs) (upd (upd H1 dx (.own x)) x (.ins C dx [])) (fun v H2 => v = .non ∧ Q (.ref x) H2) E) : StarP.tMakeS K C sp E te σ H Q := h
theorem mkR0 (h : ∀ x dx, H x = none → H dx = none → dx ≠ x → sp [V.ref x] (upd (upd H dx (.own x)) x (.ins C dx [])) (fun v H2 => v = .non ∧ Q (.ref x) H2) E) : StarP.tMakeR0 C sp E σ H Q := h
end
end Rd
/-! tuples put together and repeated, whatever object comes out -/
namespace Rd
open PySem PySem.Spec PyProof.Rows L2
section
variable {K : PySem.W.Frag} {H : Hp} {Q : VK}
theorem catU {a b : Addr} {xs ys : List V} (ha : SqT K H a xs) (hb : SqT K H b ys) (hz : xs.length + ys.length ≤ sizeLine) (h : ∀ c H', Same H H' → SqT K H' c (xs ++ ys) → Q (.ref c) H') : rCatA K (.ref a) (.ref b) H Q :=
  ⟨a, b, xs, ys, rfl, rfl, ha, hb, hz, fun e => h b H (Same.refl _) (by rw [e]; exact hb), fun _ e => h a H (Same.refl _) (by rw [e, List.append_nil]; exact ha), fun _ _ p hp => h p _ (fun b o hb' => by rw [upd_ne (fun z => by rw [z, hp] at hb'; cases hb')]; exact hb') (SqT.of upd_same)⟩
theorem mulU {a : Addr} {k : Int} {xs : List V} (ha : SqT K H a xs) (k0 : 0 ≤ k) (k1 : k ≤ 1000) (hz : xs.length ≤ 1000) (h : ∀ c H', Same H H' → SqT K H' c (List.replicate k.toNat xs).flatten → Q (.ref c) H') : TupM.rMulT K (.ref a) (.int k) H Q := by
  refine ⟨a, k, xs, rfl, rfl, ha, k0, k1, hz, fun e => h a H (Same.refl _) ?_, fun _ p hp => h p _ (fun b o hb' => by rw [upd_ne (fun z => by rw [z, hp] at hb'; cases hb')]; exact hb') (SqT.of upd_same)⟩
  rcases e with e | e
  · rw [e, show (1 : Int).toNat = 1 from rfl, List.replicate_one, List.flatten_cons, List.flatten_nil, List.append_nil]; exact ha
  · rw [e]
    have z : (List.replicate k.toNat ([] : List V)).flatten = [] := by simp
    rw [z, ← e]; exact ha
/-- pieces: tuples of an int and a text -/
def IsPc (H : Hp) (v : V) (p : Int × Str) : Prop := ∃ q, v = .ref q ∧ H q = some (.tup [.int p.1, .str p.2])
def Pcs (H : Hp) : List V → List (Int × Str) → Prop
  | [], [] => True
  | v :: vs, p :: ps => IsPc H v p ∧ Pcs H vs ps
  | _, _ => False
theorem Pcs.keep {H H' : Hp} (S : ∀ q xs, H q = some (.tup xs) → H' q = some (.tup xs)) : ∀ {vs : List V} {ps : List (Int × Str)}, Pcs H vs ps → Pcs H' vs ps
  | [], [], _ => trivial
  | _ :: _, _ :: _, ⟨⟨q, e, h⟩, r⟩ => ⟨⟨q, e, S _ _ h⟩, Pcs.keep S r⟩
  | [], _ :: _, h => h.elim
  | _ :: _, [], h => h.elim
theorem Pcs.same {H H' : Hp} (S : Same H H') {vs : List V} {ps : List (Int × Str)} (h : Pcs H vs ps) : Pcs H' vs ps := h.keep fun q xs e => S _ _ e
theorem Pcs.sameR {H H' : Hp} {vs : List V} {ps : List (Int × Str)} (h : Pcs H vs ps) (S : Same H H') : Pcs H' vs ps := h.same S
theorem sqTR {K : PySem.W.Frag} {H H' : Hp} {a : Addr} {xs : List V} (h : SqT K H a xs) (f : Same H H') : SqT K H' a xs := sqTS f h
/-- an instance changes: tuples stay -/
theorem Pcs.upd {p C dx : Addr} {fs : List (Str × V)} {u : HO} {vs : List V} {ps : List (Int × Str)} (h : Pcs H vs ps) (e : H p = some (.ins C dx fs)) : Pcs (L2.upd H p u) vs ps := h.keep fun q xs z => by rw [upd_ne (L2.ne_of z e (by intro w; cases w))]; exact z
theorem sqFrm {K : PySem.W.Frag} {a p C dx : Addr} {fs : List (Str × V)} {u : HO} {xs : List V} (h : SqT K H a xs) (e : H p = some (.ins C dx fs)) : SqT K (L2.upd H p u) a xs :=
  h.elim (fun r => .inl (r.elim (fun z => .inl (by rw [upd_ne (L2.ne_of z e (by intro w; cases w))]; exact z)) fun ⟨o, z⟩ => .inr ⟨o, by rw [upd_ne (L2.ne_of z e (by intro w; cases w))]; exact z⟩)) .inr
theorem Pcs.len : ∀ {vs : List V} {ps : List (Int × Str)}, Pcs H vs ps → vs.length = ps.length
  | [], [], _ => rfl
  | _ :: _, _ :: _, ⟨_, r⟩ => congrArg (· + 1) r.len
  | [], _ :: _, h => h.elim
  | _ :: _, [], h => h.elim
theorem Pcs.get : ∀ {vs : List V} {ps : List (Int × Str)} {i : Nat} {v : V}, Pcs H vs ps → vs[i]? = some v → ∃ p, ps[i]? = some p ∧ IsPc H v p
  | _ :: _, p :: _, 0, _, ⟨h, _⟩, e => ⟨p, rfl, by cases e; exact h⟩
  | _ :: _, _ :: _, i + 1, _, ⟨_, r⟩, e => Pcs.get (i := i) r e
  | [], [], _, _, _, e => by cases e
  | [], _ :: _, _, _, h, _ => h.elim
  | _ :: _, [], _, _, h, _ => h.elim
theorem Pcs.app : ∀ {vs us : List V} {ps qs : List (Int × Str)}, Pcs H vs ps → Pcs H us qs → Pcs H (vs ++ us) (ps ++ qs)
  | [], _, [], _, _, h => h
  | _ :: _, _, _ :: _, _, ⟨a, r⟩, h => ⟨a, r.app h⟩
  | [], _, _ :: _, _, h, _ => h.elim
  | _ :: _, _, [], _, h, _ => h.elim
theorem Pcs.rep {vs : List V} {ps : List (Int × Str)} (h : Pcs H vs ps) : ∀ k : Nat, Pcs H (List.replicate k vs).flatten (List.replicate k ps).flatten
  | 0 => trivial
  | k + 1 => by rw [List.replicate_succ, List.replicate_succ, List.flatten_cons, List.flatten_cons]; exact h.app (h.rep k)
def pcD (p : Int × Str) : PyData := .tuple [.int p.1, .str p.2]
theorem Pcs.dp : ∀ {vs : List V} {ps : List (Int × Str)}, Pcs H vs ps → DpAll K H vs (ps.map pcD)
  | [], [], _ => .nil
  | _ :: _, _ :: _, ⟨⟨q, e, h⟩, r⟩ => by subst e; exact .cons (.tup (.of h) (.cons (.int _) (.cons (.str _) .nil))) r.dp
  | [], _ :: _, h => h.elim
  | _ :: _, [], h => h.elim
theorem dp_listP {a : Addr} {vs : List V} {ps : List (Int × Str)} (h : SqL K H a vs) (p : Pcs H vs ps) : Dp K H (.ref a) (.list (ps.map pcD)) := .lst h p.dp
theorem dp_tupP {a : Addr} {vs : List V} {ps : List (Int × Str)} (h : SqT K H a vs) (p : Pcs H vs ps) : Dp K H (.ref a) (.tuple (ps.map pcD)) := .tup h p.dp
end
theorem can_pcs : ∀ ps : List (Int × Str), (∀ p ∈ ps, PyData.strOk p.2 = true) → PyData.canLayAll0 (ps.map pcD) = true
  | [], _ => by simp [PyData.canLayAll0]
  | p :: r, h => by
    have h1 := h p (List.mem_cons_self ..)
    have h2 := can_pcs r fun q hq => h q (List.mem_cons_of_mem _ hq)
    simp only [List.map_cons, PyData.canLayAll0, pcD, PyData.canLay0, h1, Bool.and_self, Bool.true_and]
    exact h2
theorem dep_pcs : ∀ ps : List (Int × Str), PyData.depthAll (ps.map pcD) ≤ 1
  | [] => by simp [PyData.depthAll]
  | _ :: r => by
    have := dep_pcs r
    simp only [List.map_cons, pcD, PyData.depthAll, PyData.depth]
    omega
theorem shaped_listP {ps : List (Int × Str)} (h : ∀ p ∈ ps, PyData.strOk p.2 = true) : SeqAt.shaped (.list (ps.map pcD)) = true := by
  have d := dep_pcs ps
  unfold SeqAt.shaped
  rw [show PyData.canLay0 (.list (ps.map pcD)) = true from by simp only [PyData.canLay0]; exact can_pcs ps h, Bool.true_and]
  refine decide_eq_true ?_
  simp only [PyData.depth]
  omega
theorem shaped_tupP {ps : List (Int × Str)} (h : ∀ p ∈ ps, PyData.strOk p.2 = true) : SeqAt.shaped (.tuple (ps.map pcD)) = true := by
  have d := dep_pcs ps
  unfold SeqAt.shaped
  rw [show PyData.canLay0 (.tuple (ps.map pcD)) = true from by simp only [PyData.canLay0]; exact can_pcs ps h, Bool.true_and]
  refine decide_eq_true ?_
  simp only [PyData.depth]
  omega
theorem eqvAll_pcs : ∀ ps qs : List (Int × Str), PyData.eqvAll (ps.map pcD) (qs.map pcD) = decide (ps = qs)
  | [], [] => by simp [PyData.eqvAll]
  | [], _ :: _ => by simp [PyData.eqvAll]
  | _ :: _, [] => by simp [PyData.eqvAll]
  | ⟨a, x⟩ :: r, ⟨b, y⟩ :: q => by
    simp only [List.map_cons, PyData.eqvAll, pcD, PyData.eqv, Bool.and_true]
    rw [eqvAll_pcs r q, Bool.eq_iff_iff]
    simp
theorem eqv_listP (ps qs : List (Int × Str)) : PyData.eqv (.list (ps.map pcD)) (.list (qs.map pcD)) = decide (ps = qs) := by simp only [PyData.eqv, eqvAll_pcs]
theorem eqv_tupP (ps qs : List (Int × Str)) : PyData.eqv (.tuple (ps.map pcD)) (.tuple (qs.map pcD)) = decide (ps = qs) := by simp only [PyData.eqv, eqvAll_pcs]
end Rd
/-! enumerate of a tuple -/
namespace EnT
open PySem PySem.Calls PySem.Spec PyProof.Rows L2
set_option maxHeartbeats 4000000 in
theorem new_enumT (t : Addr) (its : Array Value) (n : Nat) (dc : Option Addr) (sl : Array (Option Value)) : Meets (Builtin.«enumerate.__new__» ⟨[.type "enumerate", .ref t], []⟩) (fun _ R s => s.heap.get? t = some { cls := .type "tuple", dict := dc, data := .seq its n, slots := sl } ∧
    R (.ok (.ret (.ref (s.heap.push { cls := .type "tuple_iterator", data := .fields #[.ref t, .int 0 0] }).objs.size))) { s with heap := (s.heap.push { cls := .type "tuple_iterator", data := .fields #[.ref t, .int 0 0] }).push { cls := .type "enumerate", data := .fields #[.none, .bool false, .ref s.heap.objs.size, rawInt 0, .none, .none] } }) := by
  refine .of_wp fun prog w A R s h => ?_
  obtain ⟨hp, g, d, tk, os⟩ := s
  obtain ⟨ht, h⟩ := h
  have se := sub_enumerate
  have hT : Heap.IsTuple (Shared.heap ⟨hp, g, d, tk, os⟩) t its := ⟨_, ht, rfl, n, rfl⟩
  wp_walk using wpAny_loadPart' ht
  refine wpAny_stack_any fun _ => wpAny_pure ?_
  split <;> first
    | (rename_i c _ _ _ _ _; cases (c == Value.type "enumerate") <;> (wp_walk using wpAny_loadPart' ht, wpAny_pyIter_tuple hT; exact ⟨_, rfl, h⟩))
    | (wp_walk using wpAny_loadPart' ht, wpAny_pyIter_tuple hT; exact ⟨_, rfl, h⟩)
theorem call_enumT {prog : Program} {w : World} {A : Around} {E : Value → Shared → Prop} {s : Shared} {t : Addr} {its : Array Value} {Q : Value → Shared → Prop} (hT : s.heap.IsTuple t its)
    (h : ∀ h', IsEnum h' (s.heap.objs.size + 1) s.heap.objs.size 0 .none → h'.IsTupleIter s.heap.objs.size t 0 → (∀ b o, s.heap.get? b = some o → h'.get? b = some o) → Q (.ref (s.heap.objs.size + 1)) { s with heap := h' }) : wpAny (model prog w) A (call (.type "enumerate") [.ref t]) Q E s := by
  obtain ⟨⟨c, dc, dt, sl⟩, e, c1, n, d1⟩ := hT
  simp only at c1 d1
  subst c1 d1
  refine callType_new F.called_enumerate (by decide) (F.typeCall_enumerate_1 _) (F.newCall_enumerate_1 _) (fun ob => F.args_object_init_2 ob _) F.entry_enumerate_new (new_enumT t its n dc sl) ⟨e, ?_⟩
  have sz : (s.heap.push { cls := .type "tuple_iterator", data := .fields #[.ref t, .int 0 0] }).objs.size = s.heap.objs.size + 1 := Heap.size_push ..
  show _ ∧ _
  rw [sz]
  have top := Heap.get?_push_size (s.heap.push { cls := .type "tuple_iterator", data := .fields #[.ref t, .int 0 0] }) (o := { cls := .type "enumerate", data := .fields #[.none, .bool false, .ref s.heap.objs.size, rawInt 0, .none, .none] }) rfl
  rw [sz] at top
  exact ⟨⟨_, top, rfl⟩, h _ top ⟨_, Heap.get?_push_of_some _ (Heap.get?_push_size _ rfl), rfl, rfl⟩ fun b o x => Heap.get?_push_of_some _ (Heap.get?_push_of_some _ x)⟩
end EnT
namespace EnT
open PySem PySem.Calls PySem.Spec PyProof.Rows L2
/-- the tuple at a, each item in a new pair with its place -/
def ItP (K : PySem.W.Frag) (a : Addr) : It :=
  ⟨fun i H => ∃ (xs : List V) (x : V), SqT K H a xs ∧ xs[i]? = some x, fun i H v H' => ∃ T x, v = .ref T ∧ H T = none ∧ H' = upd H T (.tup [.int (i : Nat), x]) ∧ ∀ xs, SqT K H a xs → xs[i]? = some x, fun i H => ∃ xs : List V, SqT K H a xs ∧ xs.length = i⟩
def AtP (a e it : Addr) (i : Nat) (h : Heap) : Prop := (∃ old, IsEnum h e it ((i : Nat) : Int) old) ∧ h.IsTupleIter it a i ∧ e ≠ it ∧ a ≠ it ∧ e ≠ a
theorem turnP {P : Program} {w : World} {K : PySem.W.Frag} {elts : List PySem.Expr} {kk : Nat} {tpos : Pos} (a e it : Addr) : Turn P w K (.Tuple elts kk tpos) (ItP K a) [e, it] e (AtP a e it) where
  mem := List.mem_cons_self
  obj := fun i h st b hb => by
    obtain ⟨⟨old, he⟩, ⟨o, ho, hc, hd⟩, _⟩ := st
    rcases List.mem_cons.mp hb with z | z
    · rw [z]
      exact ⟨_, he, fun v q => nomatch q⟩
    · rw [List.mem_singleton.mp z]
      exact ⟨o, ho, fun v q => by rw [hd] at q; cases q⟩
  keep := fun i h h' st k => by
    obtain ⟨⟨old, he⟩, hi, r⟩ := st
    exact ⟨⟨old, k e List.mem_cons_self _ he⟩, hi.at fun o q => k it (List.mem_cons_of_mem _ (List.mem_singleton.mpr rfl)) o q, r⟩
  item := by
    rintro X rfl rfl rfl hc i pins s σ H E I hf ⟨⟨old, he⟩, hit, n1, n2, n3⟩ ⟨xs, x, hq, hx⟩
    obtain ⟨its, rv, p, hz⟩ := I.tuple hq
    obtain ⟨u, hu, ru⟩ := rv.get hx
    have ht : s.heap.IsTuple a its.toArray := p
    have le : e < s.heap.objs.size := Heap.lt_size he
    have li : it < s.heap.objs.size := by obtain ⟨_, q, _⟩ := hit; exact Heap.lt_size q
    have lt : i < its.toArray.size := by
      have := (List.getElem?_eq_some_iff.mp hu).1
      simpa using this
    refine wpAny_pyNext_enum_itemD (PySem.Draws.tuple (A := X.A.in1) (show X.A.in1.handled = none from I.ok.hd hc) it a n2 its.toArray) he ⟨hit, ht⟩ lt n1 (by simp [n1, n3]) fun y h1 tk hy out ⟨hit1, ht1⟩ hT sz hk => ?_
    obtain rfl : y = u := by
      have z : its.toArray[i]? = some y := hy
      rw [List.getElem?_toArray, hu] at z
      exact (Option.some.inj z).symm
    refine ⟨_, rfl, wpAny_letOwnedTupleGo_enum (s := { s with heap := h1, toks := tk + 1 }) out fun h2 he2 sb => ?_⟩
    have hT2 : h2.get? s.heap.objs.size = some { cls := .type "tuple", data := .seq #[.int i tk, y] } := (sb.2 _ (Nat.ne_of_gt le)).trans hT
    have ob : ObjOk X.prog X.w (upd H s.heap.objs.size (.tup [.int (i : Nat), x])) h2 s.heap.objs.size (.tup [.int (i : Nat), x]) := ⟨show 2 ≤ sizeLine by decide, [.int i tk, y], .cons ⟨_, rfl⟩ (.cons ru .nil), ⟨_, hT2, rfl, _, rfl⟩⟩
    have ch : ∀ b, b ∉ [e, it] → b ≠ e ∧ b ≠ it := fun b hb => ⟨fun z => hb (by rw [z]; exact List.mem_cons_self), fun z => hb (by rw [z]; exact List.mem_cons_of_mem _ (List.mem_singleton.mpr rfl))⟩
    have I1 := I.turnedNew (t' := tk + 1) (ch := [e, it]) (fun b o hb q => (sb.2 b (ch b hb).1).trans (hk b o (ch b hb).1 (ch b hb).2 q)) hf (Nat.le_refl _) ob
    refine ⟨.ref s.heap.objs.size, _, I1, rfl, ⟨_, x, rfl, I.hok.fresh (Nat.le_refl _), rfl, fun ys hy => by rw [I.tuple_inj hy hq]; exact hx⟩, ⟨⟨y, by rw [show ((i + 1 : Nat) : Int) = (i : Int) + 1 by omega]; exact he2⟩, hit1.at fun o q => (sb.2 it n1.symm).trans q, n1, n2, n3⟩, fun b hb => ?_⟩
    have lb : b < s.heap.objs.size := by
      rcases List.mem_cons.mp hb with z | z
      · rw [z]; exact le
      · rw [List.mem_singleton.mp z]; exact li
    rw [upd_ne (Nat.ne_of_lt lb)]
    exact (hf b hb).1
  done := by
    rintro X rfl rfl rfl hc i pins s σ H E I hf ⟨⟨old, he⟩, hit, n1, n2, n3⟩ ⟨xs, hq, rfl⟩
    obtain ⟨its, rv, p, hz⟩ := I.tuple hq
    have ht : s.heap.IsTuple a its.toArray := p
    obtain ⟨f0, f1, f2, f3, f4, f5⟩ := hf it (List.mem_cons_of_mem _ (List.mem_singleton.mpr rfl))
    have hl : its.toArray.size = xs.length := by rw [List.size_toArray]; exact rv.length.symm
    rw [← hl] at he hit
    exact wpAny_pyNext_enum_endD (PySem.Draws.tuple (A := X.A.in1) (show X.A.in1.handled = none from I.ok.hd hc) it a n2 its.toArray) he ⟨hit, ht⟩ fun h1 eb => ⟨rfl, I.turned (t' := s.toks) (fun b o hb q => eb b o hb q) f0 f1 f3 f4 f5⟩
  self := fun A i s Q E st h => by
    obtain ⟨⟨_, he⟩, _⟩ := st
    exact wpAny_pyIter_enum he h
def iEnumT (K : PySem.W.Frag) (ta : TA) : TI := fun σ H R => ta σ H fun vs H1 => ∃ a xs, vs = [.ref a] ∧ SqT K H1 a xs ∧ R (ItP K a) H1
theorem pi_enumT {X : Cx} {e : PySem.Expr} {ta : TA} {p pos tpos : Pos} {elts : List PySem.Expr} {kk : Nat} (hg : Gl X "enumerate") (hm : X.mg "enumerate" = none) (ha : PA X [e] ta) (hs : starEach [e] X.env = [(false, eval e X.env)] := by rfl) :
    PI X (.Tuple elts kk tpos) (.Call (.Name "enumerate" p) [e] [] pos) (iEnumT X.K ta) := by
  constructor
  intro pins s σ H R I h
  refine Call_ (ld_blt I hg hm boot_enumerate (PyProof.Rows.callWith_type1 (thn (ha.run pos pins s σ H _ I h) fun us s1 ⟨vs, H1, I1, r1, q1⟩ => ?_) hs rfl))
  obtain ⟨a, xs, rfl, hq, q⟩ := q1
  obtain ⟨u, rfl, ru⟩ := vals1 r1
  cases ru
  obtain ⟨its, rv, pt, hz⟩ := I1.tuple hq
  have ht : s1.heap.IsTuple a its.toArray := pt
  have la : a < s1.heap.objs.size := by obtain ⟨_, z, _⟩ := ht; exact Heap.lt_size z
  refine call_enumT ht fun h1 he hit hk => wpAny_pyIter_enum he ?_
  have I2 : Inv X pins σ H1 { s1 with heap := h1 } := I1.kept (t' := s1.toks) hk
  refine ⟨s1.heap.objs.size + 1, [s1.heap.objs.size + 1, s1.heap.objs.size], _, _, H1, rfl, I2, turnP a (s1.heap.objs.size + 1) s1.heap.objs.size, ⟨⟨.none, he⟩, hit, Nat.succ_ne_self _, Nat.ne_of_lt la, Nat.ne_of_gt (Nat.lt_succ_of_lt la)⟩, fun b hb => ?_, q⟩
  have lb : s1.heap.objs.size ≤ b := by
    rcases List.mem_cons.mp hb with z | z
    · rw [z]; exact Nat.le_succ _
    · rw [List.mem_singleton.mp z]; exact Nat.le_refl _
  exact I1.fpOk lb (I1.hok.fresh lb)
end EnT
namespace Rd
open PySem PySem.Spec PyProof.Rows L2
/-- over enumerate(t): what holds ahead of each turn -/
theorem for_enumT {K : PySem.W.Frag} {a : Addr} {xs : List V} {g : TG} {tb : TS} {D : Ends} {σ : L2.St} {H : Hp} (Pv : Nat → L2.St → Hp → Prop) (h0 : Pv 0 σ H) (hl : ∀ i σ H, i ≤ xs.length → Pv i σ H → SqT K H a xs)
    (hs : ∀ i x σ H T, xs[i]? = some x → Pv i σ H → H T = none → g (.ref T) σ (upd H T (.tup [.int (i : Nat), x])) fun σ2 H2 => tb { D with nx := Pv (i + 1), ct := Pv (i + 1), bk := D.nx } σ2 H2) (hd : ∀ σ H, Pv xs.length σ H → D.nx σ H) :
    ∃ W : Nat → Nat → L2.St → Hp → Prop, (∃ m, W 0 m σ H) ∧ ∀ i m σ H, W i m σ H →
      ((EnT.ItP K a).stop i H ∧ D.nx σ H) ∨ ((EnT.ItP K a).go i H ∧ ∃ N : L2.St → Hp → Prop, (∀ σ' H', N σ' H' → ∃ m', m' < m ∧ W (i + 1) m' σ' H') ∧ ∀ x H', (EnT.ItP K a).yld i H x H' → g x σ H' fun σ2 H2 => tb { D with nx := N, ct := N, bk := D.nx } σ2 H2) := by
  refine ⟨fun i m σ H => m = xs.length - i ∧ i ≤ xs.length ∧ Pv i σ H, ⟨xs.length, rfl, Nat.zero_le _, h0⟩, ?_⟩
  rintro i m σ H ⟨rfl, hi, p⟩
  have q := hl i σ H hi p
  rcases Nat.lt_or_ge i xs.length with lt | ge
  · refine .inr ⟨⟨xs, xs[i], q, List.getElem?_eq_getElem lt⟩, Pv (i + 1), fun σ' H' p' => ⟨xs.length - (i + 1), by omega, rfl, lt, p'⟩, ?_⟩
    rintro v H' ⟨T, x, rfl, nT, rfl, hx⟩
    exact hs i x σ H T (hx xs q) p nT
  · have e : i = xs.length := Nat.le_antisymm hi ge
    subst e
    exact .inl ⟨⟨xs, q, rfl⟩, hd σ H p⟩
theorem ienT {K : PySem.W.Frag} {ta : TA} {σ : L2.St} {H : Hp} {R : It → Hp → Prop} (h : ta σ H fun vs H1 => ∃ a xs, vs = [.ref a] ∧ SqT K H1 a xs ∧ R (EnT.ItP K a) H1) : EnT.iEnumT K ta σ H R := h
end Rd

/-! ## heaps: what a step leaves -/
def Frm (a : Nat) (H H' : L2.Hp) : Prop := ∀ b o, H b = some o → b ≠ a → H' b = some o
section
open PySem L2
variable {H H' H1 H2 : Hp} {a b p : Nat} {o u : HO}
theorem Frm.get (f : Frm a H H') (h : H b = some o) (n : b ≠ a) : H' b = some o := f b o h n
theorem Sget (f : L2.Same H H') (h : H b = some o) : H' b = some o := f b o h
theorem Frm.free (f : Frm a H H') (n : b ≠ a) (h : H' b = none) : H b = none := by
  cases q : H b with
  | none => rfl
  | some o => rw [f b o q n] at h; cases h
theorem Sfree (f : L2.Same H H') (h : H' b = none) : H b = none := L2.Same.free f h
theorem updFree (h : upd H a o b = none) : H b = none := by
  unfold upd at h
  split at h
  · cases h
  · exact h
theorem updGet' (h : H b = some o) (n : b ≠ a) : upd H a u b = some o := by rw [upd_ne n]; exact h
theorem ne_none (h : H b = none) (h' : H a = some o) : a ≠ b := ne_of_none h' h
theorem ne_none' (h : H a = none) (h' : H b = some o) : a ≠ b := (ne_of_none h' h).symm
theorem updFresh (n : H a = none) (h : H b = some o) : upd H a u b = some o := updGet' h (ne_of_none h n)
theorem updMade {x dx : Nat} {v : HO} (n : H x = none) (m : H dx = none) (h : H b = some o) : upd (upd H dx u) x v b = some o := updGet' (updGet' h (ne_of_none h m)) (ne_of_none h n)
theorem Frm.get' (f : Frm a H H') (n : b ≠ a) (h : H b = some o) : H' b = some o := f b o h n
theorem updGet (n : b ≠ a) (h : H b = some o) : upd H a u b = some o := by rw [upd_ne n]; exact h
end

local macro_rules | `(tactic| walk_at "hp") => `(tactic| first
  | with_reducible assumption
  | with_reducible exact L2.upd_same
  | ((with_reducible apply updFresh); (· with_reducible assumption); (· walk_at "hp"))
  | ((with_reducible apply updMade); (· with_reducible assumption); (· with_reducible assumption); (· walk_at "hp"))
  | ((with_reducible apply updGet); (· walk_at "ne"); (· walk_at "hp"))
  | ((with_reducible apply Sget); (· with_reducible assumption); (· walk_at "hp"))
  | ((with_reducible apply Frm.get'); (· with_reducible assumption); (· walk_at "ne"); (· walk_at "hp"))
  | fail "hp")
local macro_rules | `(tactic| walk_at "ne") => `(tactic| first
  | with_reducible assumption
  | exact Ne.symm (by with_reducible assumption)
  | ((with_reducible apply ne_none); (· with_reducible assumption); (· walk_at "hp"))
  | ((with_reducible apply ne_none'); (· with_reducible assumption); (· walk_at "hp"))
  | ((with_reducible apply L2.ne_of); (· walk_at "hp"); (· walk_at "hp"); (· (intro z; cases z)))
  | fail "ne")
local macro_rules | `(tactic| walk_at "vr") => `(tactic| with_unfolding_all rfl)
local macro_rules | `(tactic| walk_at "hpl") => `(tactic| first
  | with_reducible assumption
  | ((with_reducible apply L2.SqL.of); walk_at "hp"))
local macro_rules | `(tactic| walk_at "hpt") => `(tactic| first
  | with_reducible assumption
  | ((with_reducible apply L2.SqT.of); walk_at "hp"))
local macro_rules | `(tactic| walk_at "hpq") => `(tactic| first
  | with_reducible assumption
  | (apply Or.inl; walk_at "hpl")
  | (apply Or.inr; walk_at "hpt"))
local macro_rules | `(tactic| walk_at "sc") => `(tactic| first
  | with_reducible assumption
  | omega
  | decide
  | ((repeat' split) <;> omega))
local macro_rules | `(tactic| walk_at "scp") => `(tactic| (unfold L2.CPow; omega))
local macro_rules | `(tactic| walk_at "ll") => `(tactic| with_unfolding_all exact Nat.le_of_ble_eq_true rfl)
theorem wm {i j : Int} (hi : -(2 ^ 200) < i ∧ i < 2 ^ 200) (hj : -(2 ^ 200) < j ∧ j < 2 ^ 200) : L2.CMulW i j :=
  L2.wide_mul (a := 200) (b := 200) (by omega) (by omega) (by decide) (by decide) (by decide)
theorem wd {i j : Int} (h : 0 < j) (hj : j < 2 ^ 200) : L2.CDivW i j :=
  L2.wide_div (b := 200) h (by omega) (by decide) (by decide)
local macro_rules | `(tactic| walk_at "scm") => `(tactic| exact wm ⟨by walk_at "sc", by walk_at "sc"⟩ ⟨by walk_at "sc", by walk_at "sc"⟩)
local macro_rules | `(tactic| walk_at "scd") => `(tactic| exact wd (by walk_at "sc") (by walk_at "sc"))
local macro_rules | `(tactic| walk_at "clsv") => `(tactic| first | exact L2.ClsV.ty _ | exact L2.ClsV.own _)
local macro_rules | `(tactic| walk_at "kit") => `(tactic| first | with_reducible exact Rd.kit_int_int | with_reducible exact Rd.kit_int_bool | with_reducible exact Rd.kit_bool_bool | with_reducible exact Rd.kit_str_str | with_reducible exact Rd.kit_bool_int | with_reducible exact Rd.kit_str_int | with_reducible exact Rd.kit_none_int | with_reducible exact Rd.kit_tuple_int | with_reducible exact Rd.kit_list_int | with_reducible exact Rd.kit_dict_int | with_reducible exact Rd.kit_str_bool | with_reducible exact Rd.kit_int_str | with_reducible assumption)
local macro_rules | `(tactic| walk_at "nf") => `(tactic| with_reducible assumption)
local macro_rules | `(tactic| walk_at "tyx") => `(tactic| first | exact L2.TyX.base (L2.TyOf.int _) | exact L2.TyX.base (L2.TyOf.bl _) | exact L2.TyX.base L2.TyOf.non | exact L2.TyX.base (L2.TyOf.str _) | ((with_reducible apply Rd.ty_tup); walk_at "hp") | ((with_reducible apply Rd.ty_lst); walk_at "hp"))
local macro_rules | `(tactic| walk_at "frm") => `(tactic| first | (intro b o hb; walk_at "hp") | (intro b o hb hn; walk_at "hp"))
local macro_rules | `(tactic| walk_at "nn") => `(tactic| first
  | with_reducible assumption
  | exact updFree (by with_reducible assumption)
  | exact updFree (updFree (by with_reducible assumption))
  | exact updFree (updFree (updFree (by with_reducible assumption)))
  | exact updFree (updFree (updFree (updFree (by with_reducible assumption))))
  | exact updFree (updFree (updFree (updFree (updFree (by with_reducible assumption)))))
  | exact updFree (updFree (updFree (updFree (updFree (updFree (by with_reducible assumption))))))
  | exact updFree (updFree (updFree (updFree (updFree (updFree (updFree (by with_reducible assumption)))))))
  | exact updFree (updFree (updFree (updFree (updFree (updFree (updFree (updFree (by with_reducible assumption))))))))
  | exact updFree (updFree (updFree (updFree (updFree (updFree (updFree (updFree (updFree (by with_reducible assumption)))))))))
  | exact updFree (updFree (updFree (updFree (updFree (updFree (updFree (updFree (updFree (updFree (by with_reducible assumption))))))))))
  | exact updFree (updFree (updFree (updFree (updFree (updFree (updFree (updFree (updFree (updFree (updFree (by with_reducible assumption)))))))))))
  | exact updFree (updFree (updFree (updFree (updFree (updFree (updFree (updFree (updFree (updFree (updFree (updFree (by with_reducible assumption))))))))))))
  | exact updFree (updFree (updFree (updFree (updFree (updFree (updFree (updFree (updFree (updFree (updFree (updFree (updFree (by with_reducible assumption)))))))))))))
  | exact updFree (updFree (updFree (updFree (updFree (updFree (updFree (updFree (updFree (updFree (updFree (updFree (updFree (updFree (by with_reducible assumption))))))))))))))
  | exact updFree (updFree (updFree (updFree (updFree (updFree (updFree (updFree (updFree (updFree (updFree (updFree (updFree (updFree (updFree (by with_reducible assumption)))))))))))))))
  | exact updFree (updFree (updFree (updFree (updFree (updFree (updFree (updFree (updFree (updFree (updFree (updFree (updFree (updFree (updFree (updFree (by with_reducible assumption))))))))))))))))
  | exact updFree (updFree (updFree (updFree (updFree (updFree (updFree (updFree (updFree (updFree (updFree (updFree (updFree (updFree (updFree (updFree (updFree (by with_reducible assumption)))))))))))))))))
  | exact updFree (updFree (updFree (updFree (updFree (updFree (updFree (updFree (updFree (updFree (updFree (updFree (updFree (updFree (updFree (updFree (updFree (updFree (by with_reducible assumption))))))))))))))))))
  | ((with_reducible apply Sfree); (· with_reducible assumption); (· walk_at "nn")))
local macro_rules | `(tactic| walk_at "em") => `(tactic| first | rfl | (simp only [Int.emod_add_emod, Int.emod_sub_emod, Int.sub_emod_emod, Int.emod_emod]; first | done | rfl | (congr 1; omega)))
local macro_rules | `(tactic| walk_at "dp") => `(tactic| first | ((with_reducible apply Rd.dp_nil); walk_at "hpl") | ((with_reducible apply Rd.dp_listI); walk_at "hpl") | ((with_reducible apply Rd.dp_pair); walk_at "hpt") | ((with_reducible apply L2.Dp.lst); (· walk_at "hpl"); (· walk_at "dpa")) | ((with_reducible apply L2.Dp.tup); (· walk_at "hpt"); (· walk_at "dpa")))
local macro_rules | `(tactic| walk_at "dpt") => `(tactic| first | ((with_reducible apply Rd.dp_pair); (· walk_at "hpt")) | ((with_reducible apply L2.Dp.tup); (· walk_at "hpt"); (· walk_at "dpa")) | fail "dpt")
local macro_rules | `(tactic| walk_at "dpa") => `(tactic| first | with_reducible exact L2.DpAll.nil | ((with_reducible apply L2.DpAll.cons); (· walk_at "dp1"); (· walk_at "dpa")))
local macro_rules | `(tactic| walk_at "dp1") => `(tactic| first | with_reducible exact L2.Dp.int _ | with_reducible exact L2.Dp.bl _ | with_reducible exact L2.Dp.str _ | with_reducible exact L2.Dp.non | walk_at "dp")
local macro_rules | `(tactic| walk_at "shp") => `(tactic| first | with_reducible exact Rd.shaped_pair _ _ | with_reducible exact Rd.shaped_listI _ | with_reducible exact Rd.shaped_nil | (simp only [PySem.SeqAt.shaped, PySem.PyData.canLay0, PySem.PyData.canLayAll0, PySem.PyData.depth, PySem.PyData.depthAll]; rfl))
local macro_rules | `(tactic| walk_at "ty0") => `(tactic| exact Own.ty_int)
local macro_rules | `(tactic| walk_at "sfl") => `(tactic| first | with_unfolding_all exact Nat.le_of_ble_eq_true rfl | ((refine Rd.lput ?_); (repeat refine Rd.lputs ?_); with_unfolding_all exact Nat.le_of_ble_eq_true rfl))
local macro_rules | `(tactic| walk_at "ixn") => `(tactic| first | with_unfolding_all rfl | decide)
local macro_rules | `(tactic| walk_at "bT") => `(tactic| first | (simp only [PySem.PyData.eqv, PySem.PyData.eqvAll, beq_self_eq_true, Bool.and_self]; done) | (exact decide_eq_true rfl) | (simp only [L2.V.int.injEq, L2.V.bl.injEq, decide_eq_true_eq]; omega) | with_unfolding_all rfl | with_reducible assumption | exact decide_eq_true (by walk_at "sc"))
local macro_rules | `(tactic| walk_at "bF") => `(tactic| first | (simp only [← Int.sub_emod, decide_true, Bool.not_true]; done) | (simp only [L2.V.int.injEq, Int.emod_eq_emod_iff_emod_sub_eq_zero, eq_self, decide_true, Bool.true_and, Bool.not_true]; done) | (simp only [Rd.eqv_pairV, Rd.eqv_listI, Rd.eqv_nil, Bool.and_self, Bool.not_true, decide_true]; done) | with_unfolding_all rfl | with_reducible assumption | exact decide_eq_false (by walk_at "sc") | (simp only [L2.V.int.injEq, L2.V.bl.injEq, decide_eq_false_iff_not, Bool.not_eq_false', Bool.not_eq_eq_eq_not, Bool.not_false, decide_eq_true_eq]; omega) | (simp only [L2.V.int.injEq, Bool.and_eq_false_iff, decide_eq_false_iff_not]; first | omega | exact Or.inl (by omega)))

/-! ## the law's source of numbers: two ints in a list -/
section
open PySem L2
/-- what stands in the list -/
def SrcO (o : HO) : Prop := ∃ x y : Int, o = .lst [.int x, .int y] ∧ 0 ≤ x ∧ 0 ≤ y ∧ y < 2147483647
/-- a draw -/
abbrev spDraw : Sp := fun vs H Q _ => ∃ (a : Addr) (o : HO) (m : Int), vs = [.ref a, .int m] ∧ H a = some o ∧ SrcO o ∧ 0 < m ∧ m < 2 ^ 190 ∧
  ∀ (d : Int) (o' : HO), 0 ≤ d → d < m → SrcO o' → Q (.int d) (upd H a o')
/-- a fresh source -/
abbrev spSource (K : PySem.W.Frag) : Sp := fun vs H Q _ => ∃ (a : Addr) (ns : List Int) (t : Int), vs = [.ref a, .int t] ∧ SqL K H a (ns.map V.int) ∧ 0 ≤ t ∧ t < 1000000 ∧
  ∀ (p : Addr) (o : HO), H p = none → SrcO o → Q (.ref p) (upd H p o)
theorem sq_nonneg {y : Int} (h : 0 ≤ y) : 0 ≤ y * y := Int.mul_nonneg h h
theorem atI_map {ns : List Int} {t : Int} (h0 : 0 ≤ t) (h : t < (ns.length : Int)) : ∃ z : Int, atI (ns.map V.int) t = some (.int z) := by
  obtain ⟨j, rfl⟩ : ∃ j : Nat, t = (j : Int) := ⟨t.toNat, by omega⟩
  have hj : j < ns.length := by omega
  exact ⟨ns[j], atI_nat (by rw [List.getElem?_map, List.getElem?_eq_getElem hj]; rfl)⟩
/-- an item of a list of ints at a drawn place: what all its items keep -/
theorem pickI {ns : List Int} {P : Int → Prop} (hP : ∀ n ∈ ns, P n) {d : Int} (h0 : 0 ≤ d) (h : d < (ns.length : Int)) : ∃ n : Int, atI (ns.map V.int) d = some (.int n) ∧ P n := by
  obtain ⟨j, rfl⟩ : ∃ j : Nat, d = (j : Int) := ⟨d.toNat, by omega⟩
  have hj : j < ns.length := by omega
  exact ⟨ns[j], atI_nat (by rw [List.getElem?_map, List.getElem?_eq_getElem hj]; rfl), hP _ (List.getElem_mem hj)⟩
end

/-! ## the head: what the top leaves, looked at in one run -/
namespace Hd
open PySem PySem.Spec PyProof.Rows L2
/-- a def: its place (read off what is looked at), its two names, its text, its defaults -/
structure Df where
  ad : PySem.W.Frag → Addr
  nm : Str
  ql : Str
  st : Stmt
  dv : List V
  kw : List (Str × V)
def Df.see (K : PySem.W.Frag) (d : Df) : He.FnW := match K.lookup (d.ad K) with
  | some ⟨_, _, .func z, _⟩ => some (z.name, z.qualname, z.params, z.body, z.scope, z.globals, z.closure, z.builtins)
  | _ => none
def Df.due (d : Df) : He.FnW := some (d.nm, d.ql, defArgs d.st, .stmts (defBody d.st), defScope d.st, mainGlobals, [], builtinsNs)
def Df.good (K : PySem.W.Frag) (d : Df) : Bool := (match K.lookup (d.ad K) with
  | some ⟨_, _, .func z, _⟩ => (He.dflB K z.defaults d.dv && He.kwdB K z.kwdefaults d.kw) && PySem.W.codeIn K z.code d.ql
  | _ => false) && PySem.W.keepIn K (.ref (d.ad K))
theorem Df.fn {K : PySem.W.Frag} {d : Df} (s : d.see K = d.due) (g : d.good K = true) : ∃ fd, FunD K d.nm d.ql (defArgs d.st) (defBody d.st) (defScope d.st) d.dv d.kw (d.ad K) fd := by
  obtain ⟨g1, g2⟩ := He.ba g
  unfold Df.see at s
  cases e : K.lookup (d.ad K) with
  | none => simp only [e] at g1; cases g1
  | some o =>
    obtain ⟨c, dd, dt, sl⟩ := o
    cases dt with
    | func z =>
      simp only [e] at g1 s
      obtain ⟨g3, g4⟩ := He.ba g1
      obtain ⟨g5, g6⟩ := He.ba g3
      obtain ⟨a1, a2, a3, a4, a5, a6, a7, a8, a9, a10, a11, a12, a13, a14, a15⟩ := z
      simp only [Df.due, Option.some.injEq, Prod.mk.injEq] at s
      obtain ⟨h1, h2, h3, h4, h5, h6, h7, h8⟩ := s
      subst h1 h2 h3 h4 h5 h6 h7 h8
      exact ⟨_, ⟨c, dd, a8, a9, a10, a11, a12, a13, a14, sl, rfl, e, g4, He.dflB_ok g5, He.kwdB_ok g6⟩, g2⟩
    | _ => simp only [e] at g1; cases g1
theorem plain {K : PySem.W.Frag} {x q : Str} {st : Stmt} {f : Addr} {fd : FuncData} (F : FunD K x q (defArgs st) (defBody st) (defScope st) [] [] f fd) : Fun K x q st f fd := by
  obtain ⟨⟨oc, od, dV, kV, doc, pm, an, cdv, ct, sl, e, l, c, hd, _⟩, kp⟩ := F
  rcases hd with ⟨_, z⟩ | ⟨z, _⟩
  · subst z; exact ⟨⟨oc, od, kV, doc, pm, an, cdv, ct, sl, e, l, c⟩, kp⟩
  · exact absurd rfl z
/-! what objects name, layer by layer: no code objects, no classes' bases -/
def refs (o : Obj) : List Addr := match o.cls with
  | .type "code" => []
  | _ => match o.data with
    | .seq its _ => its.toList.flatMap He.refV
    | .dict es _ => es.toList.flatMap fun e => He.refV e.val
    | .func z => He.refV z.code ++ (He.refV z.defaults ++ He.refV z.kwdefaults)
    | .cls c => [c.ns]
    | .fields vs => vs.toList.flatMap He.refV
    | _ => []
def nxt (g : Addr → Option Obj) (l : List Addr) : List Addr := l.flatMap fun a => match g a with
  | some o => refs o
  | none => []
def layers (g : Addr → Option Obj) : Nat → List Addr → List Addr
  | 0, l => l
  | n + 1, l => l ++ layers g n (nxt g l)
def part (n : Nat) (g : Addr → Option Obj) : PySem.W.Frag := He.frG g (layers g n [mainGlobals])
/-- the part, its spine and addresses computed ahead of what follows -/
def pin {α : Type} : PySem.W.Frag → (PySem.W.Frag → α) → α
  | [], k => k []
  | (a, o) :: r, k => HandSHeadRun.frNat a fun a => pin r fun r => k ((a, o) :: r)
theorem pin_eq {α : Type} : ∀ (l : PySem.W.Frag) (k : PySem.W.Frag → α), pin l k = k l
  | [], _ => rfl
  | (a, o) :: r, k => by
    show HandSHeadRun.frNat a (fun a => pin r fun r => k ((a, o) :: r)) = _
    rw [HandSHeadRun.frNat_eq, pin_eq r]
abbrev Al : Type := Bool × List He.FnW × List (Option (List (Option (Str × Int))))
def tell (fn : List Df) (ts : List He.Tab) (ex : PySem.W.Frag → Bool) (K : PySem.W.Frag) : Al := (ex K && fn.all fun d => d.good K, fn.map fun d => d.see K, ts.map fun t => He.dicW K (t.1 K))
def told (fn : List Df) (ts : List He.Tab) (w : World) : Al := (true, fn.map Df.due, ts.map fun t => some (He.keysIn w.params t.2))
def hook (n : Nat) (fn : List Df) (ts : List He.Tab) (ex : PySem.W.Frag → Bool) : PySem.W.Hook where
  α := Al
  obs := fun s => tell fn ts ex (part n s.heap.get?)
  val := fun w => told fn ts w
  says := fun w h => ∃ K : PySem.W.Frag, K.In h ∧ tell fn ts ex K = told fn ts w
  of := fun _ _ e => ⟨_, He.frG_in, e⟩
  keeps := fun _ _ _ ⟨K, hK, c⟩ k => ⟨K, PySem.W.Frag.In.keeps hK k, c⟩
def ob (n : Nat) (fn : List Df) (ts : List He.Tab) (ex : PySem.W.Frag → Bool) (s : PySem.W.SharedT) : Al := pin (part n (HandSHeadRun.getT s)) (tell fn ts ex)
theorem ob_eq {n : Nat} {fn : List Df} {ts : List He.Tab} {ex : PySem.W.Frag → Bool} (s : PySem.W.SharedT) : ob n fn ts ex s = (hook n fn ts ex).obs s.abs := by
  have e : HandSHeadRun.getT s = s.abs.heap.get? := funext (HandSHeadRun.getT_eq s)
  unfold ob
  rw [pin_eq, e]
  rfl
section
variable {fn : List Df} {ts : List He.Tab} {ex : PySem.W.Frag → Bool} {w : World} {K : PySem.W.Frag}
theorem exOf (c : tell fn ts ex K = told fn ts w) : ex K = true := (He.ba (congrArg (fun z : Al => z.1) c)).1
theorem fnOf (c : tell fn ts ex K = told fn ts w) (i : Nat) {d : Df} (h : fn[i]? = some d) : ∃ fd, FunD K d.nm d.ql (defArgs d.st) (defBody d.st) (defScope d.st) d.dv d.kw (d.ad K) fd := by
  have c2 := (He.ba (show (ex K && fn.all fun d => d.good K) = true from congrArg (fun z : Al => z.1) c)).2
  have e : fn.map (fun d => d.see K) = fn.map Df.due := congrArg (fun z : Al => z.2.1) c
  have e2 := congrArg (fun l : List He.FnW => l[i]?) e
  simp only [List.getElem?_map, h, Option.map_some, Option.some.injEq] at e2
  exact Df.fn e2 (List.all_eq_true.mp c2 d (List.mem_of_getElem? h))
theorem tabOf (c : tell fn ts ex K = told fn ts w) (i : Nat) {t : He.Tab} (h : ts[i]? = some t) : ∃ es n, KDict K w (t.1 K) es n := by
  have e : ts.map (fun t => He.dicW K (t.1 K)) = ts.map fun t => some (He.keysIn w.params t.2) := congrArg (fun z : Al => z.2.2) c
  have e2 := congrArg (fun l : List (Option (List (Option (Str × Int)))) => l[i]?) e
  simp only [List.getElem?_map, h, Option.map_some, Option.some.injEq] at e2
  exact He.dicW_ok e2
end
/-! addresses and values off what is looked at -/
def adr (o : Option (Option Value)) : Addr := match o with
  | some (some (.ref a)) => a
  | _ => 0
def opt (o : Option (Option Value)) : Option Value := match o with
  | some v => v
  | none => none
def tok (o : Option (Option Value)) : Tok := match o with
  | some (some (.int _ t)) => t
  | some (some (.str _ t)) => t
  | _ => 0
def rec1 (o : Option (List Value)) : Addr := match o with
  | some (.ref a :: _) => a
  | _ => 0
def recR (o : Option (List Value)) : List Value := match o with
  | some (_ :: r) => r
  | _ => []
def stA (o : Option PySem.W.CFound) : Addr := match o with
  | some (.get _ (.ref a) _ _) => a
  | _ => 0
def stB (o : Option PySem.W.CFound) (C : Addr) : Bool := match o with
  | some (.get (.builtin b) (.ref _) .none (.ref c)) => decide (b = "staticmethod.__get__") && decide (c = C)
  | _ => false
theorem stB_ok {o : Option PySem.W.CFound} {C : Addr} (h : stB o C = true) : o = some (.get (.builtin "staticmethod.__get__") (.ref (stA o)) .none (.ref C)) := by
  unfold stB at h
  split at h
  · obtain ⟨h1, h2⟩ := He.ba h
    rw [of_decide_eq_true h1, of_decide_eq_true h2]
    rfl
  · cases h
def tupB (K : PySem.W.Frag) (a : Addr) (vs : List V) : Bool := match K.lookup a with
  | some ⟨.type c, _, .seq its _, _⟩ => decide (c = "tuple") && (decide (its.size ≤ sizeLine) && He.relAll vs its.toList)
  | _ => false
theorem tupB_ok {K : PySem.W.Frag} {a : Addr} {vs : List V} (h : tupB K a vs = true) : ∀ H : Hp, SqT K H a vs := by
  intro H
  unfold tupB at h
  split at h
  · rename_i c d its n sl e
    obtain ⟨h1, h2⟩ := He.ba h
    obtain ⟨h3, h4⟩ := He.ba h2
    exact .inr ⟨_, its, n, e, congrArg Value.type (of_decide_eq_true h1), rfl, of_decide_eq_true h3, He.relAll_ok h4⟩
  · cases h
def noR (o : Option Value) : Bool := match o with
  | none => true
  | some (.ref _) => true
  | _ => false
theorem noR_ok {o : Option Value} (h : noR o = true) : o = none ∨ ∃ g : Addr, o = some (.ref g) := by
  unfold noR at h
  split at h
  · exact .inl rfl
  · exact .inr ⟨_, rfl⟩
  · cases h
end Hd

namespace Pk18
open PySem L2
def top (i : Nat) : Stmt := PySem.Challenge.pw_ringindexes_k18_runs_put_together.main.body.getD i (.Pass ⟨0, 0, 0, 0⟩)
abbrev s_is_whole : Stmt := top 4
abbrev s_is_whole_from : Stmt := top 5
abbrev s_is_word_of : Stmt := top 6
abbrev s_is_piece : Stmt := top 15
abbrev s_check_pieces : Stmt := top 14
abbrev s_Runu__initu_ : Stmt := inClass (top 13) 0
abbrev s_Run_pieces : Stmt := inClass (top 13) 1
abbrev s_deeds_of : Stmt := top 17
abbrev s_Run_all_deeds : Stmt := inClass (top 13) 2
abbrev s_pieces_of : Stmt := top 16
abbrev s_Runu__addu_ : Stmt := inClass (top 13) 3
abbrev s_Runu__iaddu_ : Stmt := inClass (top 13) 4
abbrev s_Runu__mulu_ : Stmt := inClass (top 13) 5
abbrev s_Runu__rmulu_ : Stmt := inClass (top 13) 6
abbrev s_Runu__equ_ : Stmt := inClass (top 13) 7
abbrev s_Runu__lenu_ : Stmt := inClass (top 13) 8
abbrev s_Runu__getitemu_ : Stmt := inClass (top 13) 9
abbrev s_l_source : Stmt := top 20
abbrev s_l_draw : Stmt := top 21
abbrev s_l_pick : Stmt := top 22
abbrev s_l_pieces : Stmt := top 23
abbrev s_l_run : Stmt := top 24
abbrev s_l_is : Stmt := top 25
abbrev s_l_changed : Stmt := top 26
abbrev s_law : Stmt := top 27
theorem q_pieces_all_deeds : ¬ (("_pieces" : Str) = "all_deeds") := by decide +kernel
theorem q_all_deeds_pieces : ¬ (("all_deeds" : Str) = "_pieces") := by decide +kernel
local macro_rules | `(tactic| walk_at "lk") => `(tactic| first | with_unfolding_all rfl | (simp only [List.lookup, L2.putF, beq_iff_eq, beq_self_eq_true, q_pieces_all_deeds, (beq_eq_false_iff_ne.mpr q_pieces_all_deeds), q_all_deeds_pieces, (beq_eq_false_iff_ne.mpr q_all_deeds_pieces)]; first | done | rfl))
structure Adr where
  f_is_whole : Addr
  d_is_whole : FuncData
  f_is_whole_from : Addr
  d_is_whole_from : FuncData
  f_is_word_of : Addr
  d_is_word_of : FuncData
  f_is_piece : Addr
  d_is_piece : FuncData
  f_check_pieces : Addr
  d_check_pieces : FuncData
  f_Runu__initu_ : Addr
  d_Runu__initu_ : FuncData
  f_Run_pieces : Addr
  d_Run_pieces : FuncData
  f_deeds_of : Addr
  d_deeds_of : FuncData
  f_Run_all_deeds : Addr
  d_Run_all_deeds : FuncData
  f_pieces_of : Addr
  d_pieces_of : FuncData
  f_Runu__addu_ : Addr
  d_Runu__addu_ : FuncData
  f_Runu__iaddu_ : Addr
  d_Runu__iaddu_ : FuncData
  f_Runu__mulu_ : Addr
  d_Runu__mulu_ : FuncData
  f_Runu__rmulu_ : Addr
  d_Runu__rmulu_ : FuncData
  f_Runu__equ_ : Addr
  d_Runu__equ_ : FuncData
  f_Runu__lenu_ : Addr
  d_Runu__lenu_ : FuncData
  f_Runu__getitemu_ : Addr
  d_Runu__getitemu_ : FuncData
  f_l_source : Addr
  d_l_source : FuncData
  f_l_draw : Addr
  d_l_draw : FuncData
  f_l_pick : Addr
  d_l_pick : FuncData
  f_l_pieces : Addr
  d_l_pieces : FuncData
  f_l_run : Addr
  d_l_run : FuncData
  f_l_is : Addr
  d_l_is : FuncData
  f_l_changed : Addr
  d_l_changed : FuncData
  f_law : Addr
  d_law : FuncData
  c_Run : Addr
  p_Run_pieces : Addr
  t_MOST_PIECES : Tok
  t_MOST_COPIES : Tok
  t_MOST_TIMES : Tok
  t_WORDS : Addr
structure IsC (K : PySem.W.Frag) (C : Addr) : Prop where
  ha : PySem.W.findIn K (.ref C) "__class__" = some (some (.builtin "object.__class__"))
  hn : PySem.W.specialIn K (.builtin "object.__class__") "__get__" = some (some (.builtin "getset_descriptor.__get__"))
  htk : PySem.W.takesIn K (.builtin "object.__class__") = some true
  hm : PySem.W.mroIn K C (.type "object") = some true
theorem ty_own {K : PySem.W.Frag} {H : Hp} {a C dx : Addr} {fs : List (Str × V)} (e : H a = some (.ins C dx fs)) (k : Cls K C) (i : IsC K C) : TyX K H (.ref a) (.ref C) := .base (.ins e k i.ha i.hn i.htk i.hm)
local macro_rules | `(tactic| walk_at "tyx") => `(tactic| first | ((with_reducible apply ty_own); (· walk_at "hp"); (· with_reducible assumption); (· with_reducible assumption)) | fail "tyx")
abbrev R : PySem.W.OpenRow := PySem.W.OpenLaw.row PySem.Challenge.rw_ringindexes_k18_runs_put_together
abbrev Px0 (K : PySem.W.Frag) : Prop := (PySem.W.nsIn K mainGlobals "abs" = some none) ∧ (PySem.W.nsIn K mainGlobals "bool" = some none) ∧ (PySem.W.nsIn K mainGlobals "enumerate" = some none) ∧ (PySem.W.nsIn K mainGlobals "int" = some none) ∧ (PySem.W.nsIn K mainGlobals "isinstance" = some none) ∧ (PySem.W.nsIn K mainGlobals "len" = some none) ∧ (PySem.W.nsIn K mainGlobals "list" = some none) ∧ (PySem.W.nsIn K mainGlobals "max" = some none) ∧ (PySem.W.nsIn K mainGlobals "min" = some none) ∧ (PySem.W.nsIn K mainGlobals "range" = some none) ∧ (PySem.W.nsIn K mainGlobals "str" = some none) ∧ (PySem.W.nsIn K mainGlobals "sum" = some none)
abbrev Px1 (K : PySem.W.Frag) : Prop := (PySem.W.nsIn K mainGlobals "tuple" = some none) ∧ (PySem.W.nsIn K mainGlobals "MOST_PIECES" = some (some (.int (100) (Hd.tok (PySem.W.nsIn K mainGlobals "MOST_PIECES"))))) ∧ (PySem.W.nsIn K mainGlobals "MOST_COPIES" = some (some (.int (100) (Hd.tok (PySem.W.nsIn K mainGlobals "MOST_COPIES"))))) ∧ (PySem.W.nsIn K mainGlobals "MOST_TIMES" = some (some (.int (10000000000000000000000000000000000000000) (Hd.tok (PySem.W.nsIn K mainGlobals "MOST_TIMES"))))) ∧ (PySem.W.nsIn K mainGlobals "WORDS" = some (some (.ref (He.ga K "WORDS")))) ∧ (PySem.W.nsIn K mainGlobals "Run" = some (some (.ref (He.ga K "Run")))) ∧ (PySem.W.findIn K (.ref (He.ga K "Run")) "_pieces" = some none) ∧ (PySem.W.nsIn K mainGlobals "is_whole" = some (some (.ref (He.ga K "is_whole")))) ∧ (PySem.W.nsIn K mainGlobals "is_whole_from" = some (some (.ref (He.ga K "is_whole_from")))) ∧ (PySem.W.nsIn K mainGlobals "is_word_of" = some (some (.ref (He.ga K "is_word_of")))) ∧ (PySem.W.nsIn K mainGlobals "is_piece" = some (some (.ref (He.ga K "is_piece")))) ∧ (PySem.W.nsIn K mainGlobals "check_pieces" = some (some (.ref (He.ga K "check_pieces"))))
abbrev Px2 (K : PySem.W.Frag) : Prop := (PySem.W.nsIn K mainGlobals "deeds_of" = some (some (.ref (He.ga K "deeds_of")))) ∧ (PySem.W.nsIn K mainGlobals "pieces_of" = some (some (.ref (He.ga K "pieces_of")))) ∧ (PySem.W.nsIn K mainGlobals "_law_source" = some (some (.ref (He.ga K "_law_source")))) ∧ (PySem.W.nsIn K mainGlobals "_law_draw" = some (some (.ref (He.ga K "_law_draw")))) ∧ (PySem.W.nsIn K mainGlobals "_law_pick" = some (some (.ref (He.ga K "_law_pick")))) ∧ (PySem.W.nsIn K mainGlobals "_law_pieces" = some (some (.ref (He.ga K "_law_pieces")))) ∧ (PySem.W.nsIn K mainGlobals "_law_run" = some (some (.ref (He.ga K "_law_run")))) ∧ (PySem.W.nsIn K mainGlobals "_law_is" = some (some (.ref (He.ga K "_law_is")))) ∧ (PySem.W.nsIn K mainGlobals "_law_changed" = some (some (.ref (He.ga K "_law_changed")))) ∧ (PySem.W.nsIn K mainGlobals "law" = some (some (.ref (He.ga K "law")))) ∧ (PySem.W.findIn K (.ref (He.ga K "Run")) "__init__" = some (some (.ref (He.ma K (He.ga K "Run") "__init__")))) ∧ (PySem.W.findIn K (.ref (He.ga K "Run")) "all_deeds" = some (some (.ref (He.ma K (He.ga K "Run") "all_deeds"))))
abbrev Px3 (K : PySem.W.Frag) : Prop := (PySem.W.findIn K (.ref (He.ga K "Run")) "pieces" = some (some (.ref (He.ma K (He.ga K "Run") "pieces")))) ∧ (PySem.W.findIn K (.ref (He.ga K "Run")) (PySem.dunder (Operator.info .Add).2) = some (some (.ref (He.ma K (He.ga K "Run") "__add__")))) ∧ (PySem.W.findIn K (.ref (He.ga K "Run")) (dunderI (Operator.info .Add).2) = some (some (.ref (He.ma K (He.ga K "Run") "__iadd__")))) ∧ (PySem.W.findIn K (.ref (He.ga K "Run")) (PySem.dunder (Operator.info .Mult).2) = some (some (.ref (He.ma K (He.ga K "Run") "__mul__")))) ∧ (PySem.W.findIn K (.ref (He.ga K "Run")) (dunderR (Operator.info .Mult).2) = some (some (.ref (He.ma K (He.ga K "Run") "__rmul__")))) ∧ (PySem.W.findIn K (.ref (He.ga K "Run")) "__eq__" = some (some (.ref (He.ma K (He.ga K "Run") "__eq__")))) ∧ (PySem.W.findIn K (.ref (He.ga K "Run")) "__len__" = some (some (.ref (He.ma K (He.ga K "Run") "__len__")))) ∧ (PySem.W.findIn K (.ref (He.ga K "Run")) "__getitem__" = some (some (.ref (He.ma K (He.ga K "Run") "__getitem__")))) ∧ (PySem.W.recIn K (He.ma K (He.ga K "Run") "pieces") "property" = some (.ref (Hd.rec1 (PySem.W.recIn K (He.ma K (He.ga K "Run") "pieces") "property")) :: (Hd.recR (PySem.W.recIn K (He.ma K (He.ga K "Run") "pieces") "property")))) ∧ (Hd.tupB K (He.ga K "WORDS") [.str "put", .str "take", .str "pair"] = true) ∧ (PySem.W.plainGet K (He.ga K "Run") Str.empty = true) ∧ (PySem.W.hasDictIn K (He.ga K "Run") = true)
abbrev Px4 (K : PySem.W.Frag) : Prop := (PySem.W.plainOver K (He.ga K "Run") = true) ∧ (PySem.W.findIn K (.ref (He.ga K "Run")) "__setattr__" = some (some (.builtin "object.__setattr__"))) ∧ (PySem.W.makesIn K (He.ga K "Run") = true) ∧ (PySem.W.isFn K (.ref (He.ma K (He.ga K "Run") "__init__")) = true) ∧ (PySem.W.keepIn K (.ref (He.ga K "Run")) = true) ∧ (PySem.W.findIn K (.ref (He.ga K "Run")) "__class__" = some (some (.builtin "object.__class__"))) ∧ (PySem.W.mroIn K (He.ga K "Run") (.type "object") = some true) ∧ (PySem.W.specialIn K (.builtin "object.__class__") "__get__" = some (some (.builtin "getset_descriptor.__get__"))) ∧ (PySem.W.takesIn K (.builtin "object.__class__") = some true) ∧ (PySem.W.kitOne K (.ref (He.ga K "Run")) (.ref (He.ga K "Run")) = some true) ∧ (PySem.W.kitOne K (.type "list") (.ref (He.ga K "Run")) = some false) ∧ (PySem.W.isFn K (.ref (He.ma K (He.ga K "Run") "all_deeds")) = true)
abbrev Px5 (K : PySem.W.Frag) : Prop := (PySem.W.specialIn K (.ref (He.ma K (He.ga K "Run") "pieces")) "__get__" = some (some (.builtin "property.__get__"))) ∧ (PySem.W.takesIn K (.ref (He.ma K (He.ga K "Run") "pieces")) = some true) ∧ (PySem.W.selfFirst K (He.ga K "Run") = true) ∧ (PySem.W.isFn K (.ref (He.ma K (He.ga K "Run") "__add__")) = true) ∧ (PySem.W.isFn K (.ref (He.ma K (He.ga K "Run") "__iadd__")) = true) ∧ (PySem.W.isFn K (.ref (He.ma K (He.ga K "Run") "__mul__")) = true) ∧ (PySem.W.findIn K (.ref (He.ga K "Run")) (dunderR (Operator.info .Mult).2) = some (Hd.opt (PySem.W.findIn K (.ref (He.ga K "Run")) (dunderR (Operator.info .Mult).2)))) ∧ (Hd.noR (Hd.opt (PySem.W.findIn K (.ref (He.ga K "Run")) (dunderR (Operator.info .Mult).2))) = true) ∧ (PySem.W.findIn K (.type "int") (PySem.dunder (Operator.info .Mult).2) = some (Hd.opt (PySem.W.findIn K (.type "int") (PySem.dunder (Operator.info .Mult).2)))) ∧ (PySem.W.findIn K (.type "int") (dunderR (Operator.info .Mult).2) = some (Hd.opt (PySem.W.findIn K (.type "int") (dunderR (Operator.info .Mult).2)))) ∧ (PySem.W.subIn K (.type "int") (.ref (He.ga K "Run")) = some false) ∧ (PySem.W.findIn K (.ref (He.ga K "Run")) (PySem.dunder (Operator.info .Mult).2) = some (some (.ref (Hd.adr (PySem.W.findIn K (.ref (He.ga K "Run")) (PySem.dunder (Operator.info .Mult).2))))))
abbrev Px6 (K : PySem.W.Frag) : Prop := (PySem.W.isFn K (.ref (He.ma K (He.ga K "Run") "__rmul__")) = true) ∧ (PySem.W.subIn K (.ref (He.ga K "Run")) (.type "int") = some false) ∧ (PySem.W.isFn K (.ref (He.ma K (He.ga K "Run") "__eq__")) = true) ∧ (PySem.W.findIn K (.ref (He.ga K "Run")) "__ne__" = some (some (.builtin "object.__ne__"))) ∧ (PySem.W.subIn K (.ref (He.ga K "Run")) (.type "object") = some true) ∧ (PySem.W.isFn K (.ref (He.ma K (He.ga K "Run") "__len__")) = true) ∧ (PySem.W.isFn K (.ref (He.ma K (He.ga K "Run") "__getitem__")) = true) ∧ (PySem.W.fnIn K (He.ma K (He.ga K "Run") "__getitem__") = true) ∧ (PySem.W.notFirst K (He.ga K "Run") (.ref (He.ga K "Run")) = true) ∧ (PySem.W.notFirst K (He.ga K "Run") (.type "list") = true)
def exs (K : PySem.W.Frag) : Bool := decide (Px0 K) && (decide (Px1 K) && (decide (Px2 K) && (decide (Px3 K) && (decide (Px4 K) && (decide (Px5 K) && (decide (Px6 K) && (true)))))))
def df0 : Hd.Df := ⟨fun K => (He.ga K "is_whole"), "is_whole", "is_whole", s_is_whole, [], []⟩
def df1 : Hd.Df := ⟨fun K => (He.ga K "is_whole_from"), "is_whole_from", "is_whole_from", s_is_whole_from, [], []⟩
def df2 : Hd.Df := ⟨fun K => (He.ga K "is_word_of"), "is_word_of", "is_word_of", s_is_word_of, [], []⟩
def df3 : Hd.Df := ⟨fun K => (He.ga K "is_piece"), "is_piece", "is_piece", s_is_piece, [], []⟩
def df4 : Hd.Df := ⟨fun K => (He.ga K "check_pieces"), "check_pieces", "check_pieces", s_check_pieces, [], []⟩
def df5 : Hd.Df := ⟨fun K => (He.ma K (He.ga K "Run") "__init__"), "__init__", "Run.__init__", s_Runu__initu_, [], []⟩
def df6 : Hd.Df := ⟨fun K => (Hd.rec1 (PySem.W.recIn K (He.ma K (He.ga K "Run") "pieces") "property")), "pieces", "Run.pieces", s_Run_pieces, [], []⟩
def df7 : Hd.Df := ⟨fun K => (He.ga K "deeds_of"), "deeds_of", "deeds_of", s_deeds_of, [], []⟩
def df8 : Hd.Df := ⟨fun K => (He.ma K (He.ga K "Run") "all_deeds"), "all_deeds", "Run.all_deeds", s_Run_all_deeds, [], []⟩
def df9 : Hd.Df := ⟨fun K => (He.ga K "pieces_of"), "pieces_of", "pieces_of", s_pieces_of, [], []⟩
def df10 : Hd.Df := ⟨fun K => (He.ma K (He.ga K "Run") "__add__"), "__add__", "Run.__add__", s_Runu__addu_, [], []⟩
def df11 : Hd.Df := ⟨fun K => (He.ma K (He.ga K "Run") "__iadd__"), "__iadd__", "Run.__iadd__", s_Runu__iaddu_, [], []⟩
def df12 : Hd.Df := ⟨fun K => (He.ma K (He.ga K "Run") "__mul__"), "__mul__", "Run.__mul__", s_Runu__mulu_, [], []⟩
def df13 : Hd.Df := ⟨fun K => (He.ma K (He.ga K "Run") "__rmul__"), "__rmul__", "Run.__rmul__", s_Runu__rmulu_, [], []⟩
def df14 : Hd.Df := ⟨fun K => (He.ma K (He.ga K "Run") "__eq__"), "__eq__", "Run.__eq__", s_Runu__equ_, [], []⟩
def df15 : Hd.Df := ⟨fun K => (He.ma K (He.ga K "Run") "__len__"), "__len__", "Run.__len__", s_Runu__lenu_, [], []⟩
def df16 : Hd.Df := ⟨fun K => (He.ma K (He.ga K "Run") "__getitem__"), "__getitem__", "Run.__getitem__", s_Runu__getitemu_, [], []⟩
def df17 : Hd.Df := ⟨fun K => (He.ga K "_law_source"), "_law_source", "_law_source", s_l_source, [], []⟩
def df18 : Hd.Df := ⟨fun K => (He.ga K "_law_draw"), "_law_draw", "_law_draw", s_l_draw, [], []⟩
def df19 : Hd.Df := ⟨fun K => (He.ga K "_law_pick"), "_law_pick", "_law_pick", s_l_pick, [], []⟩
def df20 : Hd.Df := ⟨fun K => (He.ga K "_law_pieces"), "_law_pieces", "_law_pieces", s_l_pieces, [], []⟩
def df21 : Hd.Df := ⟨fun K => (He.ga K "_law_run"), "_law_run", "_law_run", s_l_run, [], []⟩
def df22 : Hd.Df := ⟨fun K => (He.ga K "_law_is"), "_law_is", "_law_is", s_l_is, [], []⟩
def df23 : Hd.Df := ⟨fun K => (He.ga K "_law_changed"), "_law_changed", "_law_changed", s_l_changed, [], []⟩
def df24 : Hd.Df := ⟨fun K => (He.ga K "law"), "law", "law", s_law, [], []⟩
def fns : List Hd.Df := [df0, df1, df2, df3, df4, df5, df6, df7, df8, df9, df10, df11, df12, df13, df14, df15, df16, df17, df18, df19, df20, df21, df22, df23, df24]
def nm0 : List Str := ["RingError", "NoRun", "is_whole", "is_whole_from", "is_word_of", "read_number", "MOST_PIECES", "MOST_COPIES", "MOST_TIMES", "WORDS", "Run", "check_pieces", "is_piece", "pieces_of", "deeds_of", "read_piece", "_law_source", "_law_draw", "_law_pick", "_law_pieces", "_law_run", "_law_is", "_law_changed"]
def loose : List Str := nm0
def tbs : List He.Tab := []
abbrev hk : PySem.W.Hook := Hd.hook 6 fns tbs exs
def ob (s : PySem.W.SharedT) : Hd.Al := Hd.ob 6 fns tbs exs s
theorem ob_is (s : PySem.W.SharedT) : ob s = hk.obs s.abs := Hd.ob_eq s
theorem run_false (w : World) : HandSHeadRun.RunEq R (PySem.W.view R.prog [27]) hk ob 200000 loose (w.withFollow "special-get-raises" false) := fun os => by kernel_rfl
theorem run_true (w : World) : HandSHeadRun.RunEq R (PySem.W.view R.prog [27]) hk ob 200000 loose (w.withFollow "special-get-raises" true) := fun os => by kernel_rfl
theorem run (w : World) : HandSHeadRun.RunEq R (PySem.W.view R.prog [27]) hk ob 200000 loose w := PySem.W.byRow2 "special-get-raises" (P := fun w => HandSHeadRun.RunEq R (PySem.W.view R.prog [27]) hk ob 200000 loose w) run_false run_true w
structure Txt (w : World) (K : PySem.W.Frag) (mg : Str → Option Value) (A : Adr) : Prop where
  n_abs : mg "abs" = none
  n_bool : mg "bool" = none
  n_enumerate : mg "enumerate" = none
  n_int : mg "int" = none
  n_isinstance : mg "isinstance" = none
  n_len : mg "len" = none
  n_list : mg "list" = none
  n_max : mg "max" = none
  n_min : mg "min" = none
  n_range : mg "range" = none
  n_str : mg "str" = none
  n_sum : mg "sum" = none
  n_tuple : mg "tuple" = none
  m_MOST_PIECES : mg "MOST_PIECES" = some (.int (100) A.t_MOST_PIECES)
  m_MOST_COPIES : mg "MOST_COPIES" = some (.int (100) A.t_MOST_COPIES)
  m_MOST_TIMES : mg "MOST_TIMES" = some (.int (10000000000000000000000000000000000000000) A.t_MOST_TIMES)
  m_WORDS : mg "WORDS" = some (.ref A.t_WORDS)
  q_WORDS : Rd.SqTK K A.t_WORDS [.str "put", .str "take", .str "pair"]
  m_Run : mg "Run" = some (.ref A.c_Run)
  k_Run : Cls K A.c_Run
  n_Run_pieces : NoAttr K A.c_Run "_pieces"
  K_Run : Mk K A.c_Run A.f_Runu__initu_
  i_Run : IsC K A.c_Run
  kt_Run_Run : PySem.W.kitOne K (.ref A.c_Run) (.ref A.c_Run) = some true
  kt_list_Run : PySem.W.kitOne K (.type "list") (.ref A.c_Run) = some false
  m_is_whole : mg "is_whole" = some (.ref A.f_is_whole)
  F_is_whole : Fun K "is_whole" "is_whole" s_is_whole A.f_is_whole A.d_is_whole
  b_is_whole : Binds K A.d_is_whole ["thing"] []
  m_is_whole_from : mg "is_whole_from" = some (.ref A.f_is_whole_from)
  F_is_whole_from : Fun K "is_whole_from" "is_whole_from" s_is_whole_from A.f_is_whole_from A.d_is_whole_from
  b_is_whole_from : Binds K A.d_is_whole_from ["thing", "low", "high"] []
  m_is_word_of : mg "is_word_of" = some (.ref A.f_is_word_of)
  F_is_word_of : Fun K "is_word_of" "is_word_of" s_is_word_of A.f_is_word_of A.d_is_word_of
  b_is_word_of : Binds K A.d_is_word_of ["thing", "words"] []
  m_is_piece : mg "is_piece" = some (.ref A.f_is_piece)
  F_is_piece : Fun K "is_piece" "is_piece" s_is_piece A.f_is_piece A.d_is_piece
  b_is_piece : Binds K A.d_is_piece ["thing"] []
  m_check_pieces : mg "check_pieces" = some (.ref A.f_check_pieces)
  F_check_pieces : Fun K "check_pieces" "check_pieces" s_check_pieces A.f_check_pieces A.d_check_pieces
  b_check_pieces : Binds K A.d_check_pieces ["pieces"] []
  F_Runu__initu_ : Fun K "__init__" "Run.__init__" s_Runu__initu_ A.f_Runu__initu_ A.d_Runu__initu_
  F_Run_pieces : Fun K "pieces" "Run.pieces" s_Run_pieces A.f_Run_pieces A.d_Run_pieces
  b_Run_pieces : Binds K A.d_Run_pieces ["self"] []
  m_deeds_of : mg "deeds_of" = some (.ref A.f_deeds_of)
  F_deeds_of : Fun K "deeds_of" "deeds_of" s_deeds_of A.f_deeds_of A.d_deeds_of
  b_deeds_of : Binds K A.d_deeds_of ["times", "word"] []
  M_Run_all_deeds : Meth K A.c_Run "all_deeds" A.f_Run_all_deeds
  F_Run_all_deeds : Fun K "all_deeds" "Run.all_deeds" s_Run_all_deeds A.f_Run_all_deeds A.d_Run_all_deeds
  b_Run_all_deeds : Binds K A.d_Run_all_deeds ["self"] []
  m_pieces_of : mg "pieces_of" = some (.ref A.f_pieces_of)
  F_pieces_of : Fun K "pieces_of" "pieces_of" s_pieces_of A.f_pieces_of A.d_pieces_of
  b_pieces_of : Binds K A.d_pieces_of ["thing"] []
  F_Runu__addu_ : Fun K "__add__" "Run.__add__" s_Runu__addu_ A.f_Runu__addu_ A.d_Runu__addu_
  b_Runu__addu_ : Binds K A.d_Runu__addu_ ["self", "other"] []
  F_Runu__iaddu_ : Fun K "__iadd__" "Run.__iadd__" s_Runu__iaddu_ A.f_Runu__iaddu_ A.d_Runu__iaddu_
  b_Runu__iaddu_ : Binds K A.d_Runu__iaddu_ ["self", "other"] []
  F_Runu__mulu_ : Fun K "__mul__" "Run.__mul__" s_Runu__mulu_ A.f_Runu__mulu_ A.d_Runu__mulu_
  b_Runu__mulu_ : Binds K A.d_Runu__mulu_ ["self", "other"] []
  F_Runu__rmulu_ : Fun K "__rmul__" "Run.__rmul__" s_Runu__rmulu_ A.f_Runu__rmulu_ A.d_Runu__rmulu_
  b_Runu__rmulu_ : Binds K A.d_Runu__rmulu_ ["self", "other"] []
  F_Runu__equ_ : Fun K "__eq__" "Run.__eq__" s_Runu__equ_ A.f_Runu__equ_ A.d_Runu__equ_
  b_Runu__equ_ : Binds K A.d_Runu__equ_ ["self", "other"] []
  F_Runu__lenu_ : Fun K "__len__" "Run.__len__" s_Runu__lenu_ A.f_Runu__lenu_ A.d_Runu__lenu_
  b_Runu__lenu_ : Binds K A.d_Runu__lenu_ ["self"] []
  F_Runu__getitemu_ : Fun K "__getitem__" "Run.__getitem__" s_Runu__getitemu_ A.f_Runu__getitemu_ A.d_Runu__getitemu_
  b_Runu__getitemu_ : Binds K A.d_Runu__getitemu_ ["self", "at"] []
  m_l_source : mg "_law_source" = some (.ref A.f_l_source)
  F_l_source : Fun K "_law_source" "_law_source" s_l_source A.f_l_source A.d_l_source
  b_l_source : Binds K A.d_l_source ["_law_script", "_law_turn"] []
  m_l_draw : mg "_law_draw" = some (.ref A.f_l_draw)
  F_l_draw : Fun K "_law_draw" "_law_draw" s_l_draw A.f_l_draw A.d_l_draw
  b_l_draw : Binds K A.d_l_draw ["_law_source_here", "_law_amount"] []
  m_l_pick : mg "_law_pick" = some (.ref A.f_l_pick)
  F_l_pick : Fun K "_law_pick" "_law_pick" s_l_pick A.f_l_pick A.d_l_pick
  b_l_pick : Binds K A.d_l_pick ["_law_source_here", "_law_items"] []
  m_l_pieces : mg "_law_pieces" = some (.ref A.f_l_pieces)
  F_l_pieces : Fun K "_law_pieces" "_law_pieces" s_l_pieces A.f_l_pieces A.d_l_pieces
  b_l_pieces : Binds K A.d_l_pieces ["_law_source_here", "_law_many"] []
  m_l_run : mg "_law_run" = some (.ref A.f_l_run)
  F_l_run : Fun K "_law_run" "_law_run" s_l_run A.f_l_run A.d_l_run
  b_l_run : Binds K A.d_l_run ["_law_pieces_here"] []
  m_l_is : mg "_law_is" = some (.ref A.f_l_is)
  F_l_is : Fun K "_law_is" "_law_is" s_l_is A.f_l_is A.d_l_is
  b_l_is : Binds K A.d_l_is ["_law_run_here", "_law_pieces_here"] []
  m_l_changed : mg "_law_changed" = some (.ref A.f_l_changed)
  F_l_changed : Fun K "_law_changed" "_law_changed" s_l_changed A.f_l_changed A.d_l_changed
  b_l_changed : Binds K A.d_l_changed ["_law_pieces_here", "_law_more"] []
  m_law : mg "law" = some (.ref A.f_law)
  F_law : Fun K "law" "law" s_law A.f_law A.d_law
  b_law : Binds K A.d_law ["_law_script"] []
  R_Run_pieces : PropOf K A.c_Run "pieces" A.p_Run_pieces A.f_Run_pieces
  O_Runu__addu__S : Own.Bin K A.c_Run A.f_Runu__addu_ .Add
  O_Runu__iaddu__I : PySem.W.selfFirst K A.c_Run = true ∧ Own.Sp1 K A.c_Run (dunderI (Operator.info .Add).2) A.f_Runu__iaddu_
  O_Runu__mulu__S : Own.Bin K A.c_Run A.f_Runu__mulu_ .Mult
  O_Runu__mulu__T : Own.BinT K A.c_Run A.f_Runu__mulu_ .Mult "int"
  O_Runu__rmulu__R : Own.BinR K A.c_Run A.f_Runu__rmulu_ .Mult
  O_Runu__equ__1 : Own.Sp1 K A.c_Run "__eq__" A.f_Runu__equ_
  O_Runu__equ__N : Own.Ne K A.c_Run A.f_Runu__equ_
  O_Runu__lenu__1 : Own.Sp1 K A.c_Run "__len__" A.f_Runu__lenu_
  O_Runu__getitemu__1 : Own.Sp1 K A.c_Run "__getitem__" A.f_Runu__getitemu_
  fi_Runu__getitemu_ : PySem.W.fnIn K A.f_Runu__getitemu_ = true
  nf_Run_Run : PySem.W.notFirst K A.c_Run (.ref A.c_Run) = true
  nf_list_Run : PySem.W.notFirst K A.c_Run (.type "list") = true

theorem SfreeR {H H' : Hp} {b : Nat} (h : H' b = none) (f : L2.Same H H') : H b = none := Sfree f h
/-- an object that is no integer: by its kind alone -/
def Odd (K : PySem.W.Frag) (H : Hp) (y : V) : Prop := ∃ t, TyX K H y t ∧ (PySem.W.kitOne K t (.type "int") = some false ∨ (PySem.W.kitOne K t (.type "int") = some true ∧ PySem.W.kitOne K t (.type "bool") = some true))
theorem Odd.same {K : PySem.W.Frag} {H H' : Hp} {y : V} (S : Same H H') (h : Odd K H y) : Odd K H' y := by
  obtain ⟨t, a, b⟩ := h
  exact ⟨t, Rd.tyx_same S a, b⟩
theorem oddV_odd {K : PySem.W.Frag} {H : Hp} {y : V} (h : Rd.OddV H y) : Odd K H y := by
  rcases h with h | ⟨b, rfl⟩
  · obtain ⟨t, hT, ty⟩ := h.ty (K := K)
    exact ⟨_, ty, .inl (Rd.kit_TS_int t hT)⟩
  · exact ⟨_, L2.TyX.base (L2.TyOf.bl _), .inr ⟨Rd.kit_bool_int, Rd.kit_bool_bool⟩⟩
local macro_rules | `(tactic| walk_at "tyx") => `(tactic| with_reducible assumption)
local macro_rules | `(tactic| walk_at "nn") => `(tactic| first | ((with_reducible apply SfreeR); (· with_reducible assumption); (· walk_at "frm")) | fail "nn")
local macro_rules | `(tactic| walk_at "odv") => `(tactic| first | with_reducible assumption | ((with_reducible apply Rd.OddV.sameR); (· with_reducible assumption); (· walk_at "frm")) | fail "odv")

open Rd (Pcs IsPc pcD)
def fU (q : Addr) : List (Str × V) := [("_pieces", .ref q)]
theorem fU_q (q : Addr) : (fU q).lookup ("_pieces" : Str) = some (V.ref q) := by unfold fU; walk_at "lk"
theorem fU_d (q : Addr) : (fU q).lookup ("all_deeds" : Str) = none := by unfold fU; walk_at "lk"
theorem fU_put (q : Addr) : putF "_pieces" (.ref q) [] = fU q := rfl
theorem fU_set (q q' : Addr) : putF "_pieces" (.ref q') (fU q) = fU q' := rfl
local macro_rules | `(tactic| walk_at "lk") => `(tactic| first | exact fU_q _ | exact fU_d _)
local macro_rules | `(tactic| walk_at "sfl") => `(tactic| first | (unfold fU; with_unfolding_all exact Nat.le_of_ble_eq_true rfl) | fail "sfl")
def wRun : List Str := ["put", "take", "pair"]
def GoodP (ps : List (Int × Str)) : Prop := ∀ p ∈ ps, 0 ≤ p.1 ∧ p.1 ≤ 10000000000000000000000000000000000000000 ∧ p.2 ∈ wRun
theorem GoodP.app {ps qs : List (Int × Str)} (a : GoodP ps) (b : GoodP qs) : GoodP (ps ++ qs) := fun p hp => (List.mem_append.mp hp).elim (a p) (b p)
theorem GoodP.rep {ps : List (Int × Str)} (a : GoodP ps) (k : Nat) : GoodP (List.replicate k ps).flatten := fun p hp => by
  obtain ⟨l, hl, h⟩ := List.mem_flatten.mp hp
  rw [List.mem_replicate] at hl
  exact a p (hl.2 ▸ h)
theorem GoodP.ok {ps : List (Int × Str)} (a : GoodP ps) : ∀ p ∈ ps, PySem.PyData.strOk p.2 = true := fun p hp => by
  have h := (a p hp).2.2
  unfold wRun at h
  simp only [List.mem_cons, List.not_mem_nil, or_false] at h
  rcases h with h | h | h <;> rw [h] <;> decide +kernel
theorem len_rep (k : Nat) (xs : List α) : (List.replicate k xs).flatten.length = k * xs.length := by
  induction k with
  | zero => simp
  | succ k ih => rw [List.replicate_succ, List.flatten_cons, List.length_append, ih, Nat.succ_mul, Nat.add_comm]
/-- the deeds of a piece -/
def dV (p : Int × Str) : Int := if p.2 = ("pair" : Str) then 2 * p.1 else p.1
theorem PcsG {H : Hp} {vs : List V} {ps : List (Int × Str)} {i : Nat} {x : V} (h : Pcs H vs ps) (g : GoodP ps) (e : vs[i]? = some x) : ∃ p q, ps[i]? = some p ∧ x = .ref q ∧ H q = some (.tup [.int p.1, .str p.2]) ∧ 0 ≤ p.1 ∧ p.1 ≤ 10000000000000000000000000000000000000000 ∧ p.2 ∈ wRun := by
  obtain ⟨p, h1, q, h2, h3⟩ := h.get e
  obtain ⟨g1, g2, g3⟩ := g p (List.mem_of_getElem? h1)
  exact ⟨p, q, h1, h2, h3, g1, g2, g3⟩
theorem inRun {s : Str} (h : s ∈ wRun) : inV (.str s) [.str "put", .str "take", .str "pair"] = true := Rd.inW (ws := wRun) h
local macro_rules | `(tactic| walk_at "bT") => `(tactic| first | exact inRun (by with_reducible assumption) | fail "bT")
local macro_rules | `(tactic| walk_at "sz") => `(tactic| exact Nat.lt_of_le_of_lt (m := 10020) (by (try simp only [List.length_map, List.length_replicate, List.length_append] at *); omega) (by decide +kernel))
local macro_rules | `(tactic| walk_at "pcs") => `(tactic| first | with_reducible assumption | ((with_reducible apply Rd.Pcs.sameR); (· with_reducible assumption); (· walk_at "frm")) | fail "pcs")
local macro_rules | `(tactic| walk_at "hpt") => `(tactic| first | with_reducible assumption | ((with_reducible apply Rd.sqTR); (· with_reducible assumption); (· walk_at "frm")) | fail "hpt")
local macro_rules | `(tactic| walk_at "kit") => `(tactic| first | with_reducible exact Rd.kt_tuple_tuple | with_reducible exact Rd.kt_list_list | fail "kit")
local macro_rules | `(tactic| walk_at "ll") => `(tactic| first | exact Nat.le_of_lt (L2.small1000 (by omega)) | exact Nat.le_trans (by with_reducible assumption) (by omega) | omega | fail "ll")
local macro_rules | `(tactic| walk_at "hpt") => `(tactic| first | exact Rd.SqTK.get (by with_reducible assumption) | fail "hpt")
local macro_rules | `(tactic| walk_at "flt") => `(tactic| first | with_unfolding_all rfl | fail "flt")
theorem ne9 {x y : Str} (h : ¬ x = y) : decide (V.str x = V.str y) = false := decide_eq_false fun e => h (V.str.inj e)
local macro_rules | `(tactic| walk_at "bF") => `(tactic| first | exact ne9 (by with_reducible assumption) | fail "bF")
local macro_rules | `(tactic| walk_at "dp") => `(tactic| first | ((with_reducible apply Rd.dp_listP); (· walk_at "hpl"); (· walk_at "pcs")) | ((with_reducible apply Rd.dp_tupP); (· walk_at "hpt"); (· walk_at "pcs")) | fail "dp")
local macro_rules | `(tactic| walk_at "dpt") => `(tactic| first | ((with_reducible apply Rd.dp_tupP); (· walk_at "hpt"); (· walk_at "pcs")) | fail "dpt")
local macro_rules | `(tactic| walk_at "shp") => `(tactic| first | exact Rd.shaped_listP (GoodP.ok (by with_reducible assumption)) | exact Rd.shaped_tupP (GoodP.ok (by with_reducible assumption)) | fail "shp")

theorem GoodP.take {ps : List (Int × Str)} (a : GoodP ps) (i : Nat) : GoodP (ps.take i) := fun p hp => a p (List.mem_of_mem_take hp)
theorem GoodP.one {p : Int × Str} (a : 0 ≤ p.1) (b : p.1 ≤ 10000000000000000000000000000000000000000) (c : p.2 ∈ wRun) : GoodP [p] := fun x hx => by rcases List.mem_singleton.mp hx with rfl; exact ⟨a, b, c⟩
theorem GoodP.nil : GoodP [] := fun x hx => by cases hx
theorem PcsFrm {H H' : Hp} {a : Addr} {o : HO} {vs : List V} {ps : List (Int × Str)} (F : Frm a H H') (ha : H a = some o) (so : SrcO o) (h : Pcs H vs ps) : Pcs H' vs ps := h.keep fun q xs e => F _ _ e (fun z => by obtain ⟨x, y, rfl, _⟩ := so; rw [z, ha] at e; cases e)
theorem PcsIns {H H' : Hp} {a C dx : Addr} {fs : List (Str × V)} {vs : List V} {ps : List (Int × Str)} (F : Frm a H H') (ha : H a = some (.ins C dx fs)) (h : Pcs H vs ps) : Pcs H' vs ps := h.keep fun q xs e => F _ _ e (L2.ne_of e ha (by intro w; cases w))
theorem sqIns {K : PySem.W.Frag} {H H' : Hp} {a q C dx : Addr} {fs : List (Str × V)} {xs : List V} (F : Frm a H H') (e : H a = some (.ins C dx fs)) (h : SqT K H q xs) : SqT K H' q xs :=
  h.elim (fun r => .inl (r.elim (fun z => .inl (F _ _ z (L2.ne_of z e (by intro w; cases w)))) fun ⟨o, z⟩ => .inr ⟨o, F _ _ z (L2.ne_of z e (by intro w; cases w))⟩)) .inr
theorem PcsUpd {H : Hp} {l : Addr} {ys : List V} {u : HO} {vs : List V} {ps : List (Int × Str)} (h : Pcs H vs ps) (e : H l = some (.lst ys)) : Pcs (upd H l u) vs ps := h.keep fun q xs z => by rw [upd_ne (L2.ne_of z e (by intro w; cases w))]; exact z
theorem neP {ps qs : List (Int × Str)} (h : ps = qs) : (!PySem.PyData.eqv (.list (ps.map pcD)) (.list (qs.map pcD))) = false := by rw [Rd.eqv_listP, decide_eq_true h]; rfl
local macro_rules | `(tactic| walk_at "bF") => `(tactic| first | exact neP rfl | fail "bF")
def isPr (p : Int × Str) : Bool := decide (p.2 = ("pair" : Str))
theorem due_sum : ∀ ps : List (Int × Str), (ps.map dV).sum = (ps.map (·.1)).sum + ((ps.filter isPr).map (·.1)).sum
  | [] => rfl
  | p :: r => by
    have ih := due_sum r
    by_cases e : p.2 = ("pair" : Str)
    · rw [List.filter_cons_of_pos (by simpa [isPr] using e)]
      simp only [List.map_cons, List.sum_cons, ih, dV, if_pos e]
      omega
    · rw [List.filter_cons_of_neg (by simpa [isPr] using e)]
      simp only [List.map_cons, List.sum_cons, ih, dV, if_neg e]
      omega
theorem filt_pair {ps : List (Int × Str)} {i : Nat} {p : Int × Str} (h : ps[i]? = some p) (e : p.2 = ("pair" : Str)) : (((ps.take i).filter isPr).map (·.1)).map V.int ++ [V.int p.1] = (((ps.take (i + 1)).filter isPr).map (·.1)).map V.int := by
  rw [List.take_add_one, h, List.filter_append]
  simp [isPr, e]
theorem filt_other {ps : List (Int × Str)} {i : Nat} {p : Int × Str} (h : ps[i]? = some p) (e : ¬ p.2 = ("pair" : Str)) : (ps.take i).filter isPr = (ps.take (i + 1)).filter isPr := by
  rw [List.take_add_one, h, List.filter_append]
  simp [isPr, e]
local macro_rules | `(tactic| walk_at "bT") => `(tactic| first | exact decide_eq_true (congrArg V.int (due_sum _)) | fail "bT")
theorem andT {x y : V} (h : x = y) : (decide (x = y) && !false) = true := by rw [decide_eq_true h]; rfl

local macro_rules | `(tactic| walk_at "rep") => `(tactic| first | exact Nat.le_of_lt (L2.small1000 (by rw [show (2 : Int).toNat = 2 from rfl]; omega)) | exact Nat.le_of_lt (L2.small1000 (by with_reducible assumption)) | fail "rep")
theorem rep2 {α : Type} (l : List α) : (List.replicate (2 : Int).toNat l).flatten = l ++ l := by
  rw [show (2 : Int).toNat = 2 from rfl, List.replicate_succ, List.replicate_one, List.flatten_cons, List.flatten_cons, List.flatten_nil, List.append_nil]

theorem neEq {ps qs : List (Int × Str)} : (!decide (V.bl (decide (ps = qs)) = V.bl (PySem.PyData.eqv (.list (ps.map pcD)) (.list (qs.map pcD))))) = false := by rw [Rd.eqv_listP, decide_eq_true rfl]; rfl
theorem neNe {ps qs : List (Int × Str)} : (!decide (V.bl (!decide (ps = qs)) = V.bl (!PySem.PyData.eqv (.list (ps.map pcD)) (.list (qs.map pcD))))) = false := by rw [Rd.eqv_listP, decide_eq_true rfl]; rfl
theorem neSelf {ps : List (Int × Str)} : (!decide (ps = ps)) = false := by rw [decide_eq_true rfl]; rfl
local macro_rules | `(tactic| walk_at "bF") => `(tactic| first | exact neEq | exact neNe | exact neSelf | fail "bF")
theorem two_of {us : List V} (h : V.int ((us.length : Nat) : Int) = V.int 2) : ∃ v0 v1, us = [v0, v1] := by
  have h := V.int.inj h
  match us, h with
  | [a, b], _ => exact ⟨a, b, rfl⟩
  | [], h => simp at h
  | [_], h => simp at h
  | _ :: _ :: _ :: _, h => simp at h; omega
theorem lm5 {d : Int} {n : Nat} (d0 : 0 ≤ d) (d1 : d < 5) (h : n ≤ 5) : d.toNat * n ≤ 100 ∧ n * d.toNat ≤ 1000 := by
  have a : d.toNat ≤ 4 := by omega
  have := Nat.mul_le_mul a h
  have e := Nat.mul_comm n d.toNat
  omega

section
variable {P : Program} {w : World} {K : PySem.W.Frag} {mg : Str → Option Value} {base : Heap} {A : Adr}
/-! is_whole -/
theorem sc_is_whole : FnScope ["thing"] ["thing"] (defScope s_is_whole) := ⟨rfl, rfl, rfl, by decide +kernel, rfl, by decide +kernel, by decide +kernel⟩
abbrev sp_is_whole (K : PySem.W.Frag) (A : Adr) : Sp := fun vs H Q _ => ∃ y : V, vs = [y] ∧ ((∃ i : Int, y = .int i ∧ Q (.bl true) H) ∨ (Odd K H y ∧ Q (.bl false) H))
theorem ok_is_whole (T : Txt w K mg A) : FnOk P w K mg base CX0 1 A.f_is_whole A.d_is_whole ["thing"] (sp_is_whole K A) := by
  refine T.F_is_whole.ok sc_is_whole (fun vs H Q E h => ?_) (fun cdv Ar outer s H vs Q E hr h => ?_)
  · obtain ⟨y, rfl, hy⟩ := h
    rfl
  · obtain ⟨y, rfl, hy⟩ := h
    have hu := hu_of hr
    have t_q_WORDS := T.q_WORDS
    have t_i_Run := T.i_Run
    have t_kt_Run_Run := T.kt_Run_Run
    have t_kt_list_Run := T.kt_list_Run
    have t_nf_Run_Run := T.nf_Run_Run
    have t_nf_list_Run := T.nf_list_Run
    have t_k_Run := T.k_Run
    rcases hy with ⟨i, rfl, hk⟩ | ⟨⟨t, ty, kt | ⟨kt, kb⟩⟩, hk⟩
    · skip
      refine ⟨_, (pss_one (ps_ret (pe_and (pe_callB (Rd.isi (K := K) rfl) (by rfl) T.n_isinstance (by decide +kernel) (pa_cons (pv 0) (pa_cons (pe_bltn (v := .ty "int") (u := .type "int") (by rfl) T.n_int (by decide +kernel) rfl) pa_nil))) (pe_one (pe_not (pe_callB (Rd.isi (K := K) rfl) (by rfl) T.n_isinstance (by decide +kernel) (pa_cons (pv 0) (pa_cons (pe_bltn (v := .ty "bool") (u := .type "bool") (by rfl) T.n_bool (by decide +kernel) rfl) pa_nil)))))))), ?_⟩
      try dsimp only [L2.cxOf, L2.Cx.nox, L2.Cx.wish]
      with_reducible refine Rd.ret (Rd.andV (Rd.cB (Rd.cons (Rd.var (by walk_at "vr") (Rd.cons (Rd.c (Rd.nil ?_)))))))
      refine ⟨_, _, _, _, _, rfl, (by walk_at "clsv"), (by walk_at "tyx"), (by walk_at "kit"), ?_⟩
      with_reducible refine Rd.bl (Rd.iteT (by first | with_unfolding_all rfl | walk_at "bT") (Rd.notV (Rd.cB (Rd.cons (Rd.var (by walk_at "vr") (Rd.cons (Rd.c (Rd.nil ?_))))))))
      refine ⟨_, _, _, _, _, rfl, (by walk_at "clsv"), (by walk_at "tyx"), (by walk_at "kit"), ?_⟩
      with_reducible refine Rd.bl ?_
      exact hk
    · skip
      refine ⟨_, (pss_one (ps_ret (pe_and (pe_callB (Rd.isi (K := K) rfl) (by rfl) T.n_isinstance (by decide +kernel) (pa_cons (pv 0) (pa_cons (pe_bltn (v := .ty "int") (u := .type "int") (by rfl) T.n_int (by decide +kernel) rfl) pa_nil))) (pe_one Rd.peN)))), ?_⟩
      try dsimp only [L2.cxOf, L2.Cx.nox, L2.Cx.wish]
      with_reducible refine Rd.ret (Rd.andV (Rd.cB (Rd.cons (Rd.var (by walk_at "vr") (Rd.cons (Rd.c (Rd.nil ?_)))))))
      refine ⟨_, _, _, _, _, rfl, (by walk_at "clsv"), (by walk_at "tyx"), (by walk_at "kit"), ?_⟩
      with_reducible refine Rd.bl (Rd.iteF (by walk_at "bF") ?_)
      exact hk
    · skip
      refine ⟨_, (pss_one (ps_ret (pe_and (pe_callB (Rd.isi (K := K) rfl) (by rfl) T.n_isinstance (by decide +kernel) (pa_cons (pv 0) (pa_cons (pe_bltn (v := .ty "int") (u := .type "int") (by rfl) T.n_int (by decide +kernel) rfl) pa_nil))) (pe_one (pe_not (pe_callB (Rd.isi (K := K) rfl) (by rfl) T.n_isinstance (by decide +kernel) (pa_cons (pv 0) (pa_cons (pe_bltn (v := .ty "bool") (u := .type "bool") (by rfl) T.n_bool (by decide +kernel) rfl) pa_nil)))))))), ?_⟩
      try dsimp only [L2.cxOf, L2.Cx.nox, L2.Cx.wish]
      with_reducible refine Rd.ret (Rd.andV (Rd.cB (Rd.cons (Rd.var (by walk_at "vr") (Rd.cons (Rd.c (Rd.nil ?_)))))))
      refine ⟨_, _, _, _, _, rfl, (by walk_at "clsv"), (by walk_at "tyx"), (by walk_at "kit"), ?_⟩
      with_reducible refine Rd.bl (Rd.iteT (by walk_at "bT") (Rd.notV (Rd.cB (Rd.cons (Rd.var (by walk_at "vr") (Rd.cons (Rd.c (Rd.nil ?_))))))))
      refine ⟨_, _, _, _, _, rfl, (by walk_at "clsv"), (by walk_at "tyx"), (by walk_at "kit"), ?_⟩
      with_reducible refine Rd.bl ?_
      exact hk
/-! is_whole_from -/
theorem sc_is_whole_from : FnScope ["thing", "low", "high"] ["thing", "low", "high"] (defScope s_is_whole_from) := ⟨rfl, rfl, rfl, by decide +kernel, rfl, by decide +kernel, by decide +kernel⟩
abbrev sp_is_whole_from (K : PySem.W.Frag) (A : Adr) : Sp := fun vs H Q _ => ∃ (y : V) (lo hi : Int), vs = [y, .int lo, .int hi] ∧ ((∃ i : Int, y = .int i ∧ lo ≤ i ∧ i ≤ hi ∧ Q (.bl true) H) ∨ (∃ i : Int, y = .int i ∧ i < lo ∧ Q (.bl false) H) ∨ (∃ i : Int, y = .int i ∧ lo ≤ i ∧ hi < i ∧ Q (.bl false) H) ∨ (Odd K H y ∧ Q (.bl false) H))
theorem ok_is_whole_from (T : Txt w K mg A) : FnOk P w K mg base CX0 2 A.f_is_whole_from A.d_is_whole_from ["thing", "low", "high"] (sp_is_whole_from K A) := by
  refine T.F_is_whole_from.ok sc_is_whole_from (fun vs H Q E h => ?_) (fun cdv Ar outer s H vs Q E hr h => ?_)
  · obtain ⟨y, lo, hi, rfl, hy⟩ := h
    rfl
  · obtain ⟨y, lo, hi, rfl, hy⟩ := h
    have hu := hu_of hr
    have t_q_WORDS := T.q_WORDS
    have t_i_Run := T.i_Run
    have t_kt_Run_Run := T.kt_Run_Run
    have t_kt_list_Run := T.kt_list_Run
    have t_nf_Run_Run := T.nf_Run_Run
    have t_nf_list_Run := T.nf_list_Run
    have t_k_Run := T.k_Run
    rcases hy with ⟨i, rfl, h1, h2, hk⟩ | ⟨i, rfl, h1, hk⟩ | ⟨i, rfl, h1, h2, hk⟩ | ⟨ho, hk⟩
    · skip
      refine ⟨_, (pss_one (ps_ret (pe_and (pe_call (ok_is_whole T) (hr.mono (by decide)) (by rfl) T.m_is_whole T.F_is_whole.kp T.b_is_whole .nil pass0 (pa_cons (pv 0) pa_nil)) (pe_one (pe_chain op_le op_le (pv 1) (pv 0) (pv 2)))))), ?_⟩
      try dsimp only [L2.cxOf, L2.Cx.nox, L2.Cx.wish]
      with_reducible refine Rd.ret (Rd.andV (Rd.call (Rd.cons (Rd.var (by walk_at "vr") (Rd.nil ?_)))))
      refine ⟨_, rfl, .inl ⟨_, rfl, ?_⟩⟩
      with_reducible refine Rd.bl (Rd.iteT (by walk_at "bT") (Rd.chain (Rd.var (by walk_at "vr") (Rd.var (by walk_at "vr") (Rd.i0 (Rd.bl (Rd.iteT (by walk_at "bT") (Rd.var (by walk_at "vr") (Rd.i0 ?_)))))))))
      rw [decide_eq_true h2]
      exact hk
    · skip
      refine ⟨_, (pss_one (ps_ret (pe_and (pe_call (ok_is_whole T) (hr.mono (by decide)) (by rfl) T.m_is_whole T.F_is_whole.kp T.b_is_whole .nil pass0 (pa_cons (pv 0) pa_nil)) (pe_one (pe_chain op_le op_le (pv 1) (pv 0) Rd.peN))))), ?_⟩
      try dsimp only [L2.cxOf, L2.Cx.nox, L2.Cx.wish]
      with_reducible refine Rd.ret (Rd.andV (Rd.call (Rd.cons (Rd.var (by walk_at "vr") (Rd.nil ?_)))))
      refine ⟨_, rfl, .inl ⟨_, rfl, ?_⟩⟩
      with_reducible refine Rd.bl (Rd.iteT (by walk_at "bT") (Rd.chain (Rd.var (by walk_at "vr") (Rd.var (by walk_at "vr") (Rd.i0 (Rd.bl (Rd.iteF (by walk_at "bF") ?_)))))))
      exact hk
    · skip
      refine ⟨_, (pss_one (ps_ret (pe_and (pe_call (ok_is_whole T) (hr.mono (by decide)) (by rfl) T.m_is_whole T.F_is_whole.kp T.b_is_whole .nil pass0 (pa_cons (pv 0) pa_nil)) (pe_one (pe_chain op_le op_le (pv 1) (pv 0) (pv 2)))))), ?_⟩
      try dsimp only [L2.cxOf, L2.Cx.nox, L2.Cx.wish]
      with_reducible refine Rd.ret (Rd.andV (Rd.call (Rd.cons (Rd.var (by walk_at "vr") (Rd.nil ?_)))))
      refine ⟨_, rfl, .inl ⟨_, rfl, ?_⟩⟩
      with_reducible refine Rd.bl (Rd.iteT (by walk_at "bT") (Rd.chain (Rd.var (by walk_at "vr") (Rd.var (by walk_at "vr") (Rd.i0 (Rd.bl (Rd.iteT (by walk_at "bT") (Rd.var (by walk_at "vr") (Rd.i0 ?_)))))))))
      rw [decide_eq_false (by omega)]
      exact hk
    · skip
      refine ⟨_, (pss_one (ps_ret (pe_and (pe_call (ok_is_whole T) (hr.mono (by decide)) (by rfl) T.m_is_whole T.F_is_whole.kp T.b_is_whole .nil pass0 (pa_cons (pv 0) pa_nil)) (pe_one Rd.peN)))), ?_⟩
      try dsimp only [L2.cxOf, L2.Cx.nox, L2.Cx.wish]
      with_reducible refine Rd.ret (Rd.andV (Rd.call (Rd.cons (Rd.var (by walk_at "vr") (Rd.nil ?_)))))
      refine ⟨_, rfl, .inr ⟨(by with_reducible assumption), ?_⟩⟩
      with_reducible refine Rd.bl (Rd.iteF (by walk_at "bF") ?_)
      exact hk
/-! is_word_of -/
theorem sc_is_word_of : FnScope ["thing", "words"] ["thing", "words"] (defScope s_is_word_of) := ⟨rfl, rfl, rfl, by decide +kernel, rfl, by decide +kernel, by decide +kernel⟩
def sp_is_word_of (P : Program) (w : World) (mg : Str → Option Value) (base : Heap) (K : PySem.W.Frag) (A : Adr) : Sp := fun vs H Q E => vs.length = 2 ∧ ∀ (cdv : Value) (Ar : Around) (outer : List Env) (s : Shared), Room 0 (Ar.deeper (PyProof.Rows.envOfC "is_word_of" (defScope s_is_word_of) s.heap.objs.size A.f_is_word_of cdv)) → ∃ t, PSs (cxOf CX0 P w K mg base ["thing", "words"] "is_word_of" (defScope s_is_word_of) A.f_is_word_of cdv Ar outer s H E).nox (defBody s_is_word_of) t ∧ t { nx := fun _ H' => Q .non H', rt := Q } (start ["thing", "words"] vs) H
theorem in_is_word_of {vs : List V} {H : Hp} {Q : VK} {E : XK} (h : ∀ (cdv : Value) (Ar : Around) (outer : List Env) (s : Shared), Room 0 (Ar.deeper (PyProof.Rows.envOfC "is_word_of" (defScope s_is_word_of) s.heap.objs.size A.f_is_word_of cdv)) → ∃ t, PSs (cxOf CX0 P w K mg base ["thing", "words"] "is_word_of" (defScope s_is_word_of) A.f_is_word_of cdv Ar outer s H E).nox (defBody s_is_word_of) t ∧ t { nx := fun _ H' => Q .non H', rt := Q } (start ["thing", "words"] vs) H) (e : vs.length = 2) : sp_is_word_of P w mg base K A vs H Q E := ⟨e, h⟩
theorem ok_is_word_of (T : Txt w K mg A) : FnOk P w K mg base CX0 1 A.f_is_word_of A.d_is_word_of ["thing", "words"] (sp_is_word_of P w mg base K A) := T.F_is_word_of.ok sc_is_word_of (fun _ _ _ _ h => h.1) (fun cdv Ar outer s H vs Q E hr h => h.2 cdv Ar outer s hr)
/-! is_piece -/
theorem sc_is_piece : FnScope ["thing"] ["thing"] (defScope s_is_piece) := ⟨rfl, rfl, rfl, by decide +kernel, rfl, by decide +kernel, by decide +kernel⟩
theorem st_is_piece {v0 : V} : L2.start ["thing"] [v0] = [some v0] := rfl
abbrev sp_is_piece (K : PySem.W.Frag) (A : Adr) : Sp := fun vs H Q _ => ∃ (q : Addr) (t : Int) (w : Str), vs = [.ref q] ∧ H q = some (.tup [.int t, .str w]) ∧ 0 ≤ t ∧ t ≤ 10000000000000000000000000000000000000000 ∧ w ∈ wRun ∧ Q (.bl true) H
theorem ok_is_piece (T : Txt w K mg A) : FnOk P w K mg base CX0 3 A.f_is_piece A.d_is_piece ["thing"] (sp_is_piece K A) := by
  refine T.F_is_piece.ok sc_is_piece (fun vs H Q E h => ?_) (fun cdv Ar outer s H vs Q E hr h => ?_)
  · obtain ⟨q, t, w, rfl, hq, t0, t1, hw, k⟩ := h
    rfl
  · obtain ⟨q, t, w, rfl, hq, t0, t1, hw, k⟩ := h
    have hu := hu_of hr
    have t_q_WORDS := T.q_WORDS
    have t_i_Run := T.i_Run
    have t_kt_Run_Run := T.kt_Run_Run
    have t_kt_list_Run := T.kt_list_Run
    have t_nf_Run_Run := T.nf_Run_Run
    have t_nf_list_Run := T.nf_list_Run
    have t_k_Run := T.k_Run
    refine ⟨_, (pss_cons (ps_if (PW.pt (pw_or (pt_not (pt_val (pe_callB (Rd.isi (K := K) rfl) (by rfl) T.n_isinstance (by decide +kernel) (pa_cons (pv 0) (pa_cons (pe_bltn (v := .ty "tuple") (u := .type "tuple") (by rfl) T.n_tuple (by decide +kernel) rfl) pa_nil))))) (pw_or1 (pt_cmpR op_ne (pe_callB call_len_seq (by rfl) T.n_len PySem.boot_len (pa_cons (pv 0) pa_nil)) pe_int (nomark _))))) (pss_one ps_never) pss_nil)
      (pss_one (ps_ret (pe_and (pe_call (ok_is_whole_from T) (hr.mono (by decide)) (by rfl) T.m_is_whole_from T.F_is_whole_from.kp T.b_is_whole_from .nil pass0 (pa_cons (pe_ix (Rd.ixTK rfl) (pv 0) pe_int (fun _ _ => rfl)) (pa_cons pe_int (pa_cons (pe_glob (v := .int (10000000000000000000000000000000000000000)) rfl T.m_MOST_TIMES ⟨_, rfl⟩) pa_nil)))) (pe_one (pe_call (ok_is_word_of T) (hr.mono (by decide)) (by rfl) T.m_is_word_of T.F_is_word_of.kp T.b_is_word_of .nil pass0 (pa_cons (pe_ix (Rd.ixTK rfl) (pv 0) pe_int (fun _ _ => rfl)) (pa_cons (pe_glob (v := .ref A.t_WORDS) rfl T.m_WORDS rfl) pa_nil)))))))), ?_⟩
    try dsimp only [L2.cxOf, L2.Cx.nox, L2.Cx.wish]
    try rw [st_is_piece]
    with_reducible refine Rd.seq (Rd.ifS (Rd.or (Rd.not (Rd.tb (Rd.cB (Rd.cons (Rd.var (by walk_at "vr") (Rd.cons (Rd.c (Rd.nil ?_))))))))))
    refine ⟨_, _, _, _, _, rfl, (by walk_at "clsv"), (by walk_at "tyx"), (by walk_at "kit"), ?_⟩
    with_reducible refine Rd.bl (Rd.iteF (by first | with_unfolding_all rfl | walk_at "bF") (Rd.test (Rd.op (Rd.cB (Rd.cons (Rd.var (by walk_at "vr") (Rd.nil (⟨_, _, rfl, (by walk_at "hpq"), (Rd.c (Rd.neS (by walk_at "vr") (Rd.bl ?_)))⟩))))))))
    with_reducible refine Rd.iteF (by walk_at "bF") (Rd.next (Rd.ret (Rd.andV (Rd.call (Rd.cons (Rd.op (Rd.var (by walk_at "vr") (Rd.c (Rd.ixT (by walk_at "hpt") (by walk_at "vr") (Rd.cons (Rd.c ?_)))))))))))
    with_reducible refine Rd.cons (Rd.c (Rd.nil ?_))
    refine ⟨_, _, _, rfl, .inl ⟨_, rfl, (by walk_at "sc"), (by walk_at "sc"), ?_⟩⟩
    with_reducible refine Rd.bl (Rd.iteT (by walk_at "bT") (Rd.call (Rd.cons (Rd.op (Rd.var (by walk_at "vr") (Rd.c (Rd.ixT (by walk_at "hpt") (by walk_at "vr") (Rd.cons (Rd.c (Rd.nil ?_))))))))))
    refine in_is_word_of (fun cdv Ar outer s hr => ?_) rfl
    have hu := hu_of hr
    refine ⟨_, (pss_one (ps_ret (pe_and (pe_callB (Rd.isi (K := K) rfl) (by rfl) T.n_isinstance (by decide +kernel) (pa_cons (pv 0) (pa_cons (pe_bltn (v := .ty "str") (u := .type "str") (by rfl) T.n_str (by decide +kernel) rfl) pa_nil))) (pe_one (pe_cmpR op_in_seq (pv 0) (pv 1) (by with_unfolding_all rfl)))))), ?_⟩
    try dsimp only [L2.cxOf, L2.Cx.nox, L2.Cx.wish]
    with_reducible refine Rd.ret (Rd.andV (Rd.cB (Rd.cons (Rd.var (by walk_at "vr") (Rd.cons (Rd.c (Rd.nil ?_)))))))
    refine ⟨_, _, _, _, _, rfl, (by walk_at "clsv"), (by walk_at "tyx"), (by walk_at "kit"), ?_⟩
    with_reducible refine Rd.bl (Rd.iteT (by first | with_unfolding_all rfl | walk_at "bT") (Rd.op (Rd.var (by walk_at "vr") (Rd.var (by walk_at "vr") ?_))))
    refine Rd.inT (.inr (by walk_at "hpt")) rfl (by walk_at "flt") ?_
    exact Rd.truB (inRun hw) k
/-! check_pieces -/
theorem sc_check_pieces : FnScope ["pieces", "at", "piece"] ["pieces"] (defScope s_check_pieces) := ⟨rfl, rfl, rfl, by decide +kernel, rfl, by decide +kernel, by decide +kernel⟩
theorem st_check_pieces {v0 : V} : L2.start ["pieces", "at", "piece"] [v0] = [some v0, none, none] := rfl
abbrev sp_check_pieces (K : PySem.W.Frag) (A : Adr) : Sp := fun vs H Q _ => ∃ (q : Addr) (xs : List V) (ps : List (Int × Str)), vs = [.ref q] ∧ SqT K H q xs ∧ Pcs H xs ps ∧ GoodP ps ∧ ps.length ≤ 100 ∧ ∀ H', Same H H' → Q .non H'
theorem ok_check_pieces (T : Txt w K mg A) : FnOk P w K mg base CX0 4 A.f_check_pieces A.d_check_pieces ["pieces"] (sp_check_pieces K A) := by
  refine T.F_check_pieces.ok sc_check_pieces (fun vs H Q E h => ?_) (fun cdv Ar outer s H vs Q E hr h => ?_)
  · obtain ⟨q, xs, ps, rfl, hq, hps, gd, l1, k⟩ := h
    rfl
  · obtain ⟨q, xs, ps, rfl, hq, hps, gd, l1, k⟩ := h
    have hu := hu_of hr
    have t_q_WORDS := T.q_WORDS
    have t_i_Run := T.i_Run
    have t_kt_Run_Run := T.kt_Run_Run
    have t_kt_list_Run := T.kt_list_Run
    have t_nf_Run_Run := T.nf_Run_Run
    have t_nf_list_Run := T.nf_list_Run
    have t_k_Run := T.k_Run
    have l2 := hps.len
    refine ⟨_, (pss_cons (ps_if (pt_cmpR op_gt (pe_callB call_len_seq (by rfl) T.n_len PySem.boot_len (pa_cons (pv 0) pa_nil)) (pe_glob (v := .int (100)) rfl T.m_MOST_PIECES ⟨_, rfl⟩) (nomark _)) (pss_one ps_never) pss_nil)
      (pss_one (ps_for PassesOwn.never rfl (EnT.pi_enumT (by rfl) T.n_enumerate (pa_cons (pv 0) pa_nil)) (pg_tup (by rfl) (pgs_cons (pg_name (i := 1) sc_check_pieces.nd rfl (Or.inl rfl)) (pgs_cons (pg_name (i := 2) sc_check_pieces.nd rfl (Or.inl rfl)) pgs_nil))) (pss_one (ps_if (pt_not (pt_val (pe_call (ok_is_piece T) (hr.mono (by decide)) (by rfl) T.m_is_piece T.F_is_piece.kp T.b_is_piece .nil pass0 (pa_cons (pv 2) pa_nil)))) (pss_one ps_never) pss_nil))))), ?_⟩
    try dsimp only [L2.cxOf, L2.Cx.nox, L2.Cx.wish]
    try rw [st_check_pieces]
    with_reducible refine Rd.seq (Rd.ifS (Rd.test (Rd.op (Rd.cB (Rd.cons (Rd.var (by walk_at "vr") (Rd.nil (⟨_, _, rfl, (by walk_at "hpq"), (Rd.c (Rd.i0 (Rd.bl ?_)))⟩))))))))
    with_reducible refine Rd.iteF (by walk_at "bF") (Rd.next (Rd.fr (Rd.ienT (Rd.cons (Rd.var (by walk_at "vr") (Rd.nil ?_))))))
    refine ⟨_, _, rfl, (by walk_at "hpt"), ?_⟩
    refine Rd.for_enumT (xs := xs) (fun (i : Nat) (σ : L2.St) (H' : Hp) => ∃ v1 v2 : Option V, σ = [some (.ref q), v1, v2] ∧ Same H H') ⟨_, _, rfl, Same.refl _⟩ (fun i σ H0 hi ⟨v1, v2, es, S0⟩ => Rd.sqTS S0 hq) (fun i x σ H0 T9 hx ⟨v1, v2, es, S0⟩ nT => ?_) (fun σ H0 ⟨v1, v2, es, S0⟩ => ?_)
    · subst es
      obtain ⟨p, r, hp1, rfl, hr, g1, g2, g3⟩ := PcsG (hps.same S0) gd hx
      refine Rd.gtup (by walk_at "hpt") rfl ?_
      with_reducible refine Rd.gcons (Rd.name (Rd.gcons (Rd.name (Rd.gnil (Rd.ifS (Rd.not (Rd.tb (Rd.call (Rd.cons (Rd.var (by walk_at "vr") (Rd.nil ?_)))))))))))
      refine ⟨_, _, _, rfl, (by walk_at "hp"), (by omega), (by omega), (by assumption), ?_⟩
      with_reducible refine Rd.bl (Rd.iteF (by walk_at "bF") (Rd.next ?_))
      exact ⟨_, _, rfl, by walk_at "frm"⟩
    · subst es
      exact k _ S0
/-! Run.__init__ -/
theorem sc_Runu__initu_ : FnScope ["self", "pieces"] ["self", "pieces"] (defScope s_Runu__initu_) := ⟨rfl, rfl, rfl, by decide +kernel, rfl, by decide +kernel, by decide +kernel⟩
theorem st_Runu__initu_ {v0 v1 : V} : L2.start ["self", "pieces"] [v0, v1] = [some v0, some v1] := rfl
abbrev sp_Runu__initu_ (K : PySem.W.Frag) (A : Adr) : Sp := fun vs H Q _ => ∃ (p dx q : Addr) (xs : List V) (ps : List (Int × Str)), vs = [.ref p, .ref q] ∧ H p = some (.ins A.c_Run dx []) ∧ SqT K H q xs ∧ Pcs H xs ps ∧ GoodP ps ∧ ps.length ≤ 100 ∧ ∀ H', Frm p H H' → H' p = some (.ins A.c_Run dx (fU q)) → Q .non H'
theorem ok_Runu__initu_ (T : Txt w K mg A) : FnR P w K mg base (L2.CX P w) 5 A.f_Runu__initu_ (StarP.starSp 1 (sp_Runu__initu_ K A)) := by
  refine StarP.okStar T.F_Runu__initu_ (by exact sc_Runu__initu_) (fun kV doc pm an cdv ct => StX.bind_star1 (B := fun us => PySem.bindArgs (PySem.W.fnOf "__init__" "Run.__init__" (defArgs s_Runu__initu_) (defBody s_Runu__initu_) (defScope s_Runu__initu_) .none kV doc pm an cdv ct) ⟨us, []⟩) (p1 := "self") (pv := "pieces") (fun a => rfl) (fun a r rs => rfl)) (fun cdv Ar outer s H vs Q E hr h => ?_)
  · obtain ⟨p, dx, q, xs, ps, rfl, hp, hq, hps, gd, l1, k⟩ := h
    have hu := hu_of hr
    have t_q_WORDS := T.q_WORDS
    have t_i_Run := T.i_Run
    have t_kt_Run_Run := T.kt_Run_Run
    have t_kt_list_Run := T.kt_list_Run
    have t_nf_Run_Run := T.nf_Run_Run
    have t_nf_list_Run := T.nf_list_Run
    have t_k_Run := T.k_Run
    refine ⟨_, (pss_cons (ps_expr (pe_call (ok_check_pieces T) (hr.mono (by decide)) (by rfl) T.m_check_pieces T.F_check_pieces.kp T.b_check_pieces .nil pass0 (pa_cons (pv 1) pa_nil)))
      (pss_one (ps_fld (pv 0) (pv 1) rfl))), ?_⟩
    try dsimp only [L2.cxOf, L2.Cx.nox, L2.Cx.wish]
    try rw [st_Runu__initu_]
    with_reducible refine Rd.seq (Rd.drop (Rd.call (Rd.cons (Rd.var (by walk_at "vr") (Rd.nil ?_)))))
    refine ⟨_, _, _, rfl, (by walk_at "hpt"), (by walk_at "pcs"), (by assumption), (by omega), fun H1 S1 => ?_⟩
    with_reducible refine Rd.sfld (Rd.var (by walk_at "vr") (Rd.var (by walk_at "vr") (⟨_, _, _, _, rfl, (by walk_at "hp"), T.k_Run, T.n_Run_pieces, (by walk_at "sfl"), ?_⟩)))
    rw [fU_put]
    exact k _ (by walk_at "frm") L2.upd_same
/-! Run.pieces -/
theorem sc_Run_pieces : FnScope ["self"] ["self"] (defScope s_Run_pieces) := ⟨rfl, rfl, rfl, by decide +kernel, rfl, by decide +kernel, by decide +kernel⟩
theorem st_Run_pieces {v0 : V} : L2.start ["self"] [v0] = [some v0] := rfl
abbrev sp_Run_pieces (K : PySem.W.Frag) (A : Adr) : Sp := fun vs H Q _ => ∃ (p dx q : Addr) (xs : List V) (ps : List (Int × Str)), vs = [.ref p] ∧ H p = some (.ins A.c_Run dx (fU q)) ∧ SqT K H q xs ∧ Pcs H xs ps ∧ GoodP ps ∧ ps.length ≤ 100 ∧ ∀ (l : Addr) (H' : Hp), Same H H' → H l = none → H' l = some (.lst xs) → Q (.ref l) H'
theorem ok_Run_pieces (T : Txt w K mg A) : FnOk P w K mg base CX0 1 A.f_Run_pieces A.d_Run_pieces ["self"] (sp_Run_pieces K A) := by
  refine T.F_Run_pieces.ok sc_Run_pieces (fun vs H Q E h => ?_) (fun cdv Ar outer s H vs Q E hr h => ?_)
  · obtain ⟨p, dx, q, xs, ps, rfl, hp, hq, hps, gd, l1, k⟩ := h
    rfl
  · obtain ⟨p, dx, q, xs, ps, rfl, hp, hq, hps, gd, l1, k⟩ := h
    have hu := hu_of hr
    have t_q_WORDS := T.q_WORDS
    have t_i_Run := T.i_Run
    have t_kt_Run_Run := T.kt_Run_Run
    have t_kt_list_Run := T.kt_list_Run
    have t_nf_Run_Run := T.nf_Run_Run
    have t_nf_list_Run := T.nf_list_Run
    have t_k_Run := T.k_Run
    refine ⟨_, (pss_one (ps_ret (pe_callTy call_list_of (by rfl) T.n_list (by decide +kernel) (pa_cons (pe_fld (pv 0) rfl) pa_nil)))), ?_⟩
    try dsimp only [L2.cxOf, L2.Cx.nox, L2.Cx.wish]
    try rw [st_Run_pieces]
    with_reducible refine Rd.ret (Rd.cB (Rd.cons (Rd.fld (Rd.var (by walk_at "vr") (⟨_, _, _, _, _, rfl, (by walk_at "hp"), T.k_Run, T.n_Run_pieces, (by walk_at "lk"), (Rd.nil ?_)⟩)))))
    refine ⟨_, _, rfl, .inr (by walk_at "hpt"), fun c1 nc1 => ?_⟩
    exact k _ _ (by walk_at "frm") (by walk_at "nn") L2.upd_same
/-! deeds_of -/
theorem sc_deeds_of : FnScope ["times", "word"] ["times", "word"] (defScope s_deeds_of) := ⟨rfl, rfl, rfl, by decide +kernel, rfl, by decide +kernel, by decide +kernel⟩
abbrev sp_deeds_of (K : PySem.W.Frag) (A : Adr) : Sp := fun vs H Q _ => ∃ (p : Int × Str), vs = [.int p.1, .str p.2] ∧ 0 ≤ p.1 ∧ p.1 ≤ 10000000000000000000000000000000000000000 ∧ Q (.int (dV p)) H
theorem ok_deeds_of (T : Txt w K mg A) : FnOk P w K mg base CX0 1 A.f_deeds_of A.d_deeds_of ["times", "word"] (sp_deeds_of K A) := by
  refine T.F_deeds_of.ok sc_deeds_of (fun vs H Q E h => ?_) (fun cdv Ar outer s H vs Q E hr h => ?_)
  · obtain ⟨⟨t9, w9⟩, rfl, t0, t1, k⟩ := h
    rfl
  · obtain ⟨⟨t9, w9⟩, rfl, t0, t1, k⟩ := h
    have hu := hu_of hr
    have t_q_WORDS := T.q_WORDS
    have t_i_Run := T.i_Run
    have t_kt_Run_Run := T.kt_Run_Run
    have t_kt_list_Run := T.kt_list_Run
    have t_nf_Run_Run := T.nf_Run_Run
    have t_nf_list_Run := T.nf_list_Run
    have t_k_Run := T.k_Run
    unfold dV at k
    dsimp only at k t0 t1 ⊢
    rcases Decidable.em (w9 = "pair") with e | e
    · rw [if_pos e] at k
      subst e
      refine ⟨_, (pss_cons (ps_if (pt_cmpR op_eq (pv 1) pe_str (nomark _)) (pss_one (ps_ret (pe_op op_mulW pe_int (pv 0)))) pss_nil)
      (pss_one ps_never)), ?_⟩
      try dsimp only [L2.cxOf, L2.Cx.nox, L2.Cx.wish]
      with_reducible refine Rd.seq (Rd.ifS (Rd.test (Rd.op (Rd.var (by walk_at "vr") (Rd.c (Rd.eqS (by walk_at "vr") (Rd.bl (Rd.iteT (by walk_at "bT") (Rd.ret (Rd.op (Rd.c ?_)))))))))))
      with_reducible refine Rd.var (by walk_at "vr") (Rd.iC (by walk_at "scm") ?_)
      exact k
    · rw [if_neg e] at k
      refine ⟨_, (pss_cons (ps_if (pt_cmpR op_eq (pv 1) pe_str (nomark _)) (pss_one ps_never) pss_nil)
      (pss_one (ps_ret (pv 0)))), ?_⟩
      try dsimp only [L2.cxOf, L2.Cx.nox, L2.Cx.wish]
      with_reducible refine Rd.seq (Rd.ifS (Rd.test (Rd.op (Rd.var (by walk_at "vr") (Rd.c (Rd.eqS (by walk_at "vr") (Rd.bl (Rd.iteF (by walk_at "bF") (Rd.next (Rd.ret (Rd.var (by walk_at "vr") ?_)))))))))))
      exact k
/-! Run.all_deeds -/
theorem sc_Run_all_deeds : FnScope ["self", "times", "word"] ["self"] (defScope s_Run_all_deeds) := ⟨rfl, rfl, rfl, by decide +kernel, rfl, by decide +kernel, by decide +kernel⟩
theorem st_Run_all_deeds {v0 : V} : L2.start ["self", "times", "word"] [v0] = [some v0, none, none] := rfl
abbrev sp_Run_all_deeds (K : PySem.W.Frag) (A : Adr) : Sp := fun vs H Q _ => ∃ (p dx q : Addr) (xs : List V) (ps : List (Int × Str)), vs = [.ref p] ∧ H p = some (.ins A.c_Run dx (fU q)) ∧ SqT K H q xs ∧ Pcs H xs ps ∧ GoodP ps ∧ ps.length ≤ 100 ∧ ∀ H', Same H H' → Q (.int (ps.map dV).sum) H'
theorem ok_Run_all_deeds (T : Txt w K mg A) : FnOk P w K mg base CX0 2 A.f_Run_all_deeds A.d_Run_all_deeds ["self"] (sp_Run_all_deeds K A) := by
  refine T.F_Run_all_deeds.ok sc_Run_all_deeds (fun vs H Q E h => ?_) (fun cdv Ar outer s H vs Q E hr h => ?_)
  · obtain ⟨p, dx, q, xs, ps, rfl, hp, hq, hps, gd, l1, k⟩ := h
    rfl
  · obtain ⟨p, dx, q, xs, ps, rfl, hp, hq, hps, gd, l1, k⟩ := h
    have hu := hu_of hr
    have t_q_WORDS := T.q_WORDS
    have t_i_Run := T.i_Run
    have t_kt_Run_Run := T.kt_Run_Run
    have t_kt_list_Run := T.kt_list_Run
    have t_nf_Run_Run := T.nf_Run_Run
    have t_nf_list_Run := T.nf_list_Run
    have t_k_Run := T.k_Run
    have l2 := hps.len
    refine ⟨_, (pss_one (ps_ret (pe_callB (cr_sum (by rfl)) (by rfl) T.n_sum (by decide +kernel) (pa_cons (pe_lc (own := [("times", 1), ("word", 2)]) (g := gTup K 2 (gCons (gName 1) (gCons (gName 2) gNil))) rfl sc_Run_all_deeds.nd (pi_tup (pe_fld (pv 0) rfl)) (blkOk_by (own := [("times", 1), ("word", 2)]) (N := ["self", "times", "word"]) (sc := defScope s_Run_all_deeds) (by decide +kernel)) (fun _ _ _ _ _ => pg_tup (by rfl) (pgs_cons (pg_name (i := 1) sc_Run_all_deeds.nd rfl (Or.inl rfl)) (pgs_cons (pg_name (i := 2) sc_Run_all_deeds.nd rfl (Or.inl rfl)) pgs_nil))) (fun _ _ _ _ _ => pts_nil) (fun _ _ _ _ _ => (pe_call (ok_deeds_of T) (hr.mono (by decide)) (by rfl) T.m_deeds_of T.F_deeds_of.kp T.b_deeds_of .nil pass0 (pa_cons (pv 1) (pa_cons (pv 2) pa_nil))))) pa_nil)))), ?_⟩
    try dsimp only [L2.cxOf, L2.Cx.nox, L2.Cx.wish]
    try rw [st_Run_all_deeds]
    with_reducible refine Rd.ret (Rd.cB (Rd.cons (Rd.lc (Rd.it (Rd.fld (Rd.var (by walk_at "vr") (⟨_, _, _, _, _, rfl, (by walk_at "hp"), T.k_Run, T.n_Run_pieces, (by walk_at "lk"), ?_⟩)))))))
    refine ⟨_, rfl, ⟨_, (by walk_at "hpt")⟩, ?_⟩
    intro D0 nD0
    refine' lc_tup (fun i H' => Same H H' ∧ H' D0 = some (.lst (((ps.take i).map dV).map V.int))) (⟨by walk_at "frm", L2.upd_same⟩) (fun i H' _ z => Rd.sqTS z.1 hq) (fun i x H' hx p => ?lct0_u6) (fun H' p => ?lcd0_u6)
    case lct0_u6 =>
      obtain ⟨S9, hD⟩ := p
      obtain ⟨p9, r9, hp9, rfl, hr9, g1, g2, g3⟩ := PcsG (hps.same S9) gd hx
      have al9 : (((ps.take i).map dV).map V.int).length ≤ 100 := by rw [List.length_map, List.length_map]; exact Nat.le_trans (List.length_take_le' i ps) l1
      refine Rd.gtup (by walk_at "hpt") rfl ?_
      with_reducible refine Rd.gcons (Rd.name (Rd.gcons (Rd.name (Rd.gnil ?_))))
      refine ⟨rfl, ?_⟩
      refine Rd.yes (Rd.iteT rfl ?_)
      with_reducible refine Rd.call (Rd.cons (Rd.var (by walk_at "vr") (Rd.cons (Rd.var (by walk_at "vr") (Rd.nil ?_)))))
      refine ⟨p9, rfl, g1, g2, ?_⟩
      refine ⟨_, (by walk_at "hp"), (by walk_at "sz"), ?_⟩
      refine ⟨by walk_at "frm", ?_⟩
      rw [List.take_add_one, hp9, List.map_append, List.map_append]
      exact L2.upd_same
    obtain ⟨S9, hD9⟩ := p
    rw [l2, List.take_length] at hD9
    with_reducible refine Rd.nil ?_
    refine ⟨_, _, rfl, (by walk_at "hpl"), ?_⟩
    exact k _ (by walk_at "frm")
/-! pieces_of -/
theorem sc_pieces_of : FnScope ["thing"] ["thing"] (defScope s_pieces_of) := ⟨rfl, rfl, rfl, by decide +kernel, rfl, by decide +kernel, by decide +kernel⟩
theorem st_pieces_of {v0 : V} : L2.start ["thing"] [v0] = [some v0] := rfl
abbrev sp_pieces_of (K : PySem.W.Frag) (A : Adr) : Sp := fun vs H Q _ => ∃ (p dx q : Addr) (xs : List V) (ps : List (Int × Str)), vs = [.ref p] ∧ H p = some (.ins A.c_Run dx (fU q)) ∧ SqT K H q xs ∧ Pcs H xs ps ∧ GoodP ps ∧ ps.length ≤ 100 ∧ ∀ (l : Addr) (H' : Hp), Same H H' → H' l = some (.tup xs) → Q (.ref l) H'
theorem ok_pieces_of (T : Txt w K mg A) : FnOk P w K mg base CX0 3 A.f_pieces_of A.d_pieces_of ["thing"] (sp_pieces_of K A) := by
  refine T.F_pieces_of.ok sc_pieces_of (fun vs H Q E h => ?_) (fun cdv Ar outer s H vs Q E hr h => ?_)
  · obtain ⟨p, dx, q, xs, ps, rfl, hp, hq, hps, gd, l1, k⟩ := h
    rfl
  · obtain ⟨p, dx, q, xs, ps, rfl, hp, hq, hps, gd, l1, k⟩ := h
    have hu := hu_of hr
    have t_q_WORDS := T.q_WORDS
    have t_i_Run := T.i_Run
    have t_kt_Run_Run := T.kt_Run_Run
    have t_kt_list_Run := T.kt_list_Run
    have t_nf_Run_Run := T.nf_Run_Run
    have t_nf_list_Run := T.nf_list_Run
    have t_k_Run := T.k_Run
    refine ⟨_, (pss_cons (ps_if (pt_not (pt_val (pe_callB (Rd.isi (K := K) rfl) (by rfl) T.n_isinstance (by decide +kernel) (pa_cons (pv 0) (pa_cons (pe_glob (v := .ref A.c_Run) rfl T.m_Run rfl) pa_nil))))) (pss_one ps_never) pss_nil)
      (pss_one (ps_ret (pe_callTy call_tuple_of (by rfl) T.n_tuple (by decide +kernel) (pa_cons (pe_prop (pv 0) T.k_Run T.R_Run_pieces (ok_Run_pieces T) (hr.mono (by decide)) T.b_Run_pieces .nil pass0 rfl) pa_nil))))), ?_⟩
    try dsimp only [L2.cxOf, L2.Cx.nox, L2.Cx.wish]
    try rw [st_pieces_of]
    with_reducible refine Rd.seq (Rd.ifS (Rd.not (Rd.tb (Rd.cB (Rd.cons (Rd.var (by walk_at "vr") (Rd.cons (Rd.c (Rd.nil ?_)))))))))
    refine ⟨_, _, _, _, _, rfl, (by walk_at "clsv"), (by walk_at "tyx"), (by walk_at "kit"), ?_⟩
    with_reducible refine Rd.bl (Rd.iteF (by walk_at "bF") (Rd.next (Rd.ret (Rd.cB (Rd.cons (Rd.prop (Rd.var (by walk_at "vr") (⟨_, _, _, rfl, (by walk_at "hp"), ?_⟩))))))))
    refine ⟨_, _, _, _, _, rfl, (by walk_at "hp"), (by walk_at "hpt"), (by walk_at "pcs"), (by assumption), (by omega), fun l1 H1 S1 nl1 hl1 => ?_⟩
    with_reducible refine Rd.nil ?_
    refine ⟨_, _, rfl, .inl ⟨(by walk_at "hpl"), fun c1 nc1 => ?_⟩⟩
    exact k _ _ (by walk_at "frm") L2.upd_same
/-! Run.__add__ -/
theorem sc_Runu__addu_ : FnScope ["self", "other", "joined"] ["self", "other"] (defScope s_Runu__addu_) := ⟨rfl, rfl, rfl, by decide +kernel, rfl, by decide +kernel, by decide +kernel⟩
theorem st_Runu__addu_ {v0 v1 : V} : L2.start ["self", "other", "joined"] [v0, v1] = [some v0, some v1, none] := rfl
abbrev sp_Runu__addu_ (K : PySem.W.Frag) (A : Adr) : Sp := fun vs H Q _ => ∃ (p dx q p2 dx2 q2 : Addr) (xs ys : List V) (ps qs : List (Int × Str)), vs = [.ref p, .ref p2] ∧ H p = some (.ins A.c_Run dx (fU q)) ∧ SqT K H q xs ∧ Pcs H xs ps ∧ GoodP ps ∧ ps.length ≤ 100 ∧ H p2 = some (.ins A.c_Run dx2 (fU q2)) ∧ SqT K H q2 ys ∧ Pcs H ys qs ∧ GoodP qs ∧ ps.length + qs.length ≤ 100 ∧ ∀ (r dr : Addr) (q' : Addr) (zs : List V) (H' : Hp), Same H H' → H r = none → H' r = some (.ins A.c_Run dr (fU q')) → SqT K H' q' zs → Pcs H' zs (ps ++ qs) → Q (.ref r) H'
theorem ok_Runu__addu_ (T : Txt w K mg A) : FnOk P w K mg base CX0 7 A.f_Runu__addu_ A.d_Runu__addu_ ["self", "other"] (sp_Runu__addu_ K A) := by
  refine T.F_Runu__addu_.ok sc_Runu__addu_ (fun vs H Q E h => ?_) (fun cdv Ar outer s H vs Q E hr h => ?_)
  · obtain ⟨p, dx, q, p2, dx2, q2, xs, ys, ps, qs, rfl, hp, hq, hps, gd, l1, hp2, hq2, hqs, gd2, l3, k⟩ := h
    rfl
  · obtain ⟨p, dx, q, p2, dx2, q2, xs, ys, ps, qs, rfl, hp, hq, hps, gd, l1, hp2, hq2, hqs, gd2, l3, k⟩ := h
    have hu := hu_of hr
    have t_q_WORDS := T.q_WORDS
    have t_i_Run := T.i_Run
    have t_kt_Run_Run := T.kt_Run_Run
    have t_kt_list_Run := T.kt_list_Run
    have t_nf_Run_Run := T.nf_Run_Run
    have t_nf_list_Run := T.nf_list_Run
    have t_k_Run := T.k_Run
    have l2 := hps.len
    have l4 := hqs.len
    refine ⟨_, (pss_cons (ps_set (i := 2) sc_Runu__addu_.nd rfl (Or.inl rfl) (pe_op op_catA (pe_fld (pv 0) rfl) (pe_call (ok_pieces_of T) (hr.mono (by decide)) (by rfl) T.m_pieces_of T.F_pieces_of.kp T.b_pieces_of .nil pass0 (pa_cons (pv 1) pa_nil))))
      (pss_one (ps_ret (StarP.pe_makeS1 T.K_Run (ok_Runu__initu_ T) (hr.mono (by decide)) (by rfl) T.m_Run Sta.passF (pv 2))))), ?_⟩
    try dsimp only [L2.cxOf, L2.Cx.nox, L2.Cx.wish]
    try rw [st_Runu__addu_]
    with_reducible refine Rd.seq (Rd.asg (Rd.op (Rd.fld (Rd.var (by walk_at "vr") (⟨_, _, _, _, _, rfl, (by walk_at "hp"), T.k_Run, T.n_Run_pieces, (by walk_at "lk"), (Rd.call (Rd.cons (Rd.var (by walk_at "vr") (Rd.nil ?_))))⟩)))))
    refine ⟨_, _, _, _, _, rfl, (by walk_at "hp"), (by walk_at "hpt"), (by walk_at "pcs"), (by assumption), (by omega), fun l1 H1 S1 hl1 => ?_⟩
    refine Rd.catU (by walk_at "hpt") (by walk_at "hpt") (by walk_at "ll") (fun c1 Hc1 Sc1 hc1 => ?_)
    with_reducible refine Rd.name ?_
    try dsimp only [Int.reduceToNat, List.set]
    with_reducible refine Rd.ret (Rd.mkS1 (Rd.var (by walk_at "vr") ?_))
    refine ⟨_, _, rfl, .inl (by walk_at "hpt"), ?_⟩
    intro x2 dx2 nx2 ndx2 ne2
    refine ⟨[_], (xs ++ ys), rfl, rfl, (by (try simp only [List.length_append]); exact Nat.le_of_lt (L2.small1000 (by omega))), fun pp2 npp2 => ?_⟩
    have np2 : pp2 ≠ x2 := ne_none' npp2 L2.upd_same
    refine ⟨_, _, _, _, (ps ++ qs), rfl, (by walk_at "hp"), (.of L2.upd_same), ((hps.app hqs).same (by walk_at "frm")), (gd.app gd2), (by rw [List.length_append]; omega), fun H2 F2 r2 => ⟨rfl, ?_⟩⟩
    exact k _ dx2 pp2 _ _ (by walk_at "frm") (by walk_at "nn") r2 (.of (by walk_at "hp")) ((hps.app hqs).same (by walk_at "frm"))
/-! Run.__iadd__ -/
theorem sc_Runu__iaddu_ : FnScope ["self", "other", "joined"] ["self", "other"] (defScope s_Runu__iaddu_) := ⟨rfl, rfl, rfl, by decide +kernel, rfl, by decide +kernel, by decide +kernel⟩
theorem st_Runu__iaddu_ {v0 v1 : V} : L2.start ["self", "other", "joined"] [v0, v1] = [some v0, some v1, none] := rfl
abbrev sp_Runu__iaddu_ (K : PySem.W.Frag) (A : Adr) : Sp := fun vs H Q _ => ∃ (p dx q p2 dx2 q2 : Addr) (xs ys : List V) (ps qs : List (Int × Str)), vs = [.ref p, .ref p2] ∧ H p = some (.ins A.c_Run dx (fU q)) ∧ SqT K H q xs ∧ Pcs H xs ps ∧ GoodP ps ∧ ps.length ≤ 100 ∧ H p2 = some (.ins A.c_Run dx2 (fU q2)) ∧ SqT K H q2 ys ∧ Pcs H ys qs ∧ GoodP qs ∧ ps.length + qs.length ≤ 100 ∧ ∀ (q' : Addr) (zs : List V) (H' : Hp), Frm p H H' → H' p = some (.ins A.c_Run dx (fU q')) → SqT K H' q' zs → Pcs H' zs (ps ++ qs) → Q (.ref p) H'
theorem ok_Runu__iaddu_ (T : Txt w K mg A) : FnOk P w K mg base CX0 5 A.f_Runu__iaddu_ A.d_Runu__iaddu_ ["self", "other"] (sp_Runu__iaddu_ K A) := by
  refine T.F_Runu__iaddu_.ok sc_Runu__iaddu_ (fun vs H Q E h => ?_) (fun cdv Ar outer s H vs Q E hr h => ?_)
  · obtain ⟨p, dx, q, p2, dx2, q2, xs, ys, ps, qs, rfl, hp, hq, hps, gd, l1, hp2, hq2, hqs, gd2, l3, k⟩ := h
    rfl
  · obtain ⟨p, dx, q, p2, dx2, q2, xs, ys, ps, qs, rfl, hp, hq, hps, gd, l1, hp2, hq2, hqs, gd2, l3, k⟩ := h
    have hu := hu_of hr
    have t_q_WORDS := T.q_WORDS
    have t_i_Run := T.i_Run
    have t_kt_Run_Run := T.kt_Run_Run
    have t_kt_list_Run := T.kt_list_Run
    have t_nf_Run_Run := T.nf_Run_Run
    have t_nf_list_Run := T.nf_list_Run
    have t_k_Run := T.k_Run
    have l2 := hps.len
    have l4 := hqs.len
    have ga := gd.app gd2
    refine ⟨_, (pss_cons (ps_set (i := 2) sc_Runu__iaddu_.nd rfl (Or.inl rfl) (pe_op op_catA (pe_fld (pv 0) rfl) (pe_call (ok_pieces_of T) (hr.mono (by decide)) (by rfl) T.m_pieces_of T.F_pieces_of.kp T.b_pieces_of .nil pass0 (pa_cons (pv 1) pa_nil))))
      (pss_cons (ps_expr (pe_call (ok_check_pieces T) (hr.mono (by decide)) (by rfl) T.m_check_pieces T.F_check_pieces.kp T.b_check_pieces .nil pass0 (pa_cons (pv 2) pa_nil)))
      (pss_cons (ps_fld (pv 0) (pv 2) rfl)
      (pss_one (ps_ret (pv 0)))))), ?_⟩
    try dsimp only [L2.cxOf, L2.Cx.nox, L2.Cx.wish]
    try rw [st_Runu__iaddu_]
    with_reducible refine Rd.seq (Rd.asg (Rd.op (Rd.fld (Rd.var (by walk_at "vr") (⟨_, _, _, _, _, rfl, (by walk_at "hp"), T.k_Run, T.n_Run_pieces, (by walk_at "lk"), (Rd.call (Rd.cons (Rd.var (by walk_at "vr") (Rd.nil ?_))))⟩)))))
    refine ⟨_, _, _, _, _, rfl, (by walk_at "hp"), (by walk_at "hpt"), (by walk_at "pcs"), (by assumption), (by omega), fun l1 H1 S1 hl1 => ?_⟩
    refine Rd.catU (by walk_at "hpt") (by walk_at "hpt") (by walk_at "ll") (fun c1 Hc1 Sc1 hc1 => ?_)
    with_reducible refine Rd.name ?_
    try dsimp only [Int.reduceToNat, List.set]
    with_reducible refine Rd.seq (Rd.drop (Rd.call (Rd.cons (Rd.var (by walk_at "vr") (Rd.nil ?_)))))
    refine ⟨_, xs ++ ys, ps ++ qs, rfl, (by walk_at "hpt"), (hps.app hqs).same (by walk_at "frm"), ga, (by rw [List.length_append]; omega), fun H9 S9 => ?_⟩
    with_reducible refine Rd.seq (Rd.sfld (Rd.var (by walk_at "vr") (Rd.var (by walk_at "vr") (⟨_, _, _, _, rfl, (by walk_at "hp"), T.k_Run, T.n_Run_pieces, (by walk_at "sfl"), (Rd.ret (Rd.var (by walk_at "vr") ?_))⟩))))
    rw [fU_set]
    exact k _ _ _ (by walk_at "frm") L2.upd_same (Rd.sqFrm (show SqT K H9 _ _ from (by walk_at "hpt")) (show H9 p = some _ from (by walk_at "hp"))) (Rd.Pcs.upd ((hps.app hqs).same (show Same H H9 from (by walk_at "frm"))) (show H9 p = some _ from (by walk_at "hp")))
/-! Run.__mul__ -/
theorem sc_Runu__mulu_ : FnScope ["self", "other", "copies"] ["self", "other"] (defScope s_Runu__mulu_) := ⟨rfl, rfl, rfl, by decide +kernel, rfl, by decide +kernel, by decide +kernel⟩
theorem st_Runu__mulu_ {v0 v1 : V} : L2.start ["self", "other", "copies"] [v0, v1] = [some v0, some v1, none] := rfl
abbrev sp_Runu__mulu_ (K : PySem.W.Frag) (A : Adr) : Sp := fun vs H Q _ => ∃ (p dx q : Addr) (xs : List V) (ps : List (Int × Str)) (c : Int), vs = [.ref p, .int c] ∧ H p = some (.ins A.c_Run dx (fU q)) ∧ SqT K H q xs ∧ Pcs H xs ps ∧ GoodP ps ∧ ps.length ≤ 100 ∧ 0 ≤ c ∧ c ≤ 100 ∧ c.toNat * ps.length ≤ 100 ∧ ∀ (r dr : Addr) (q' : Addr) (zs : List V) (H' : Hp), Same H H' → H r = none → H' r = some (.ins A.c_Run dr (fU q')) → SqT K H' q' zs → Pcs H' zs ((List.replicate c.toNat ps).flatten) → Q (.ref r) H'
theorem ok_Runu__mulu_ (T : Txt w K mg A) : FnOk P w K mg base CX0 7 A.f_Runu__mulu_ A.d_Runu__mulu_ ["self", "other"] (sp_Runu__mulu_ K A) := by
  refine T.F_Runu__mulu_.ok sc_Runu__mulu_ (fun vs H Q E h => ?_) (fun cdv Ar outer s H vs Q E hr h => ?_)
  · obtain ⟨p, dx, q, xs, ps, c, rfl, hp, hq, hps, gd, l1, c0, c1, l3, k⟩ := h
    rfl
  · obtain ⟨p, dx, q, xs, ps, c, rfl, hp, hq, hps, gd, l1, c0, c1, l3, k⟩ := h
    have hu := hu_of hr
    have t_q_WORDS := T.q_WORDS
    have t_i_Run := T.i_Run
    have t_kt_Run_Run := T.kt_Run_Run
    have t_kt_list_Run := T.kt_list_Run
    have t_nf_Run_Run := T.nf_Run_Run
    have t_nf_list_Run := T.nf_list_Run
    have t_k_Run := T.k_Run
    have l2 := hps.len
    have l5 : (List.replicate c.toNat xs).flatten.length ≤ 100 := by rw [len_rep, l2]; exact l3
    refine ⟨_, (pss_cons (ps_if (pt_not (pt_val (pe_call (ok_is_whole_from T) (hr.mono (by decide)) (by rfl) T.m_is_whole_from T.F_is_whole_from.kp T.b_is_whole_from .nil pass0 (pa_cons (pv 1) (pa_cons pe_int (pa_cons (pe_glob (v := .int (100)) rfl T.m_MOST_COPIES ⟨_, rfl⟩) pa_nil)))))) (pss_one ps_never) pss_nil)
      (pss_cons (ps_set (i := 2) sc_Runu__mulu_.nd rfl (Or.inl rfl) (pe_op TupM.op_mulT (pe_fld (pv 0) rfl) (pv 1)))
      (pss_one (ps_ret (StarP.pe_makeS1 T.K_Run (ok_Runu__initu_ T) (hr.mono (by decide)) (by rfl) T.m_Run Sta.passF (pv 2)))))), ?_⟩
    try dsimp only [L2.cxOf, L2.Cx.nox, L2.Cx.wish]
    try rw [st_Runu__mulu_]
    with_reducible refine Rd.seq (Rd.ifS (Rd.not (Rd.tb (Rd.call (Rd.cons (Rd.var (by walk_at "vr") (Rd.cons (Rd.c (Rd.cons (Rd.c (Rd.nil ?_)))))))))))
    refine ⟨_, _, _, rfl, .inl ⟨_, rfl, (by walk_at "sc"), (by walk_at "sc"), ?_⟩⟩
    with_reducible refine Rd.bl (Rd.iteF (by walk_at "bF") (Rd.next (Rd.seq (Rd.asg (Rd.op (Rd.fld (Rd.var (by walk_at "vr") (⟨_, _, _, _, _, rfl, (by walk_at "hp"), T.k_Run, T.n_Run_pieces, (by walk_at "lk"), (Rd.var (by walk_at "vr") ?_)⟩))))))))
    refine Rd.mulU (by walk_at "hpt") (by walk_at "sc") (by walk_at "sc") (by walk_at "ll") (fun c1 Hc1 Sc1 hc1 => ?_)
    with_reducible refine Rd.name ?_
    try dsimp only [Int.reduceToNat, List.set]
    with_reducible refine Rd.ret (Rd.mkS1 (Rd.var (by walk_at "vr") ?_))
    refine ⟨_, _, rfl, .inl (by walk_at "hpt"), ?_⟩
    intro x2 dx2 nx2 ndx2 ne2
    refine ⟨[_], (List.replicate c.toNat xs).flatten, rfl, rfl, (Nat.le_of_lt (L2.small1000 (by omega))), fun pp2 npp2 => ?_⟩
    have np2 : pp2 ≠ x2 := ne_none' npp2 L2.upd_same
    refine ⟨_, _, _, _, (List.replicate c.toNat ps).flatten, rfl, (by walk_at "hp"), (.of L2.upd_same), ((hps.rep c.toNat).same (by walk_at "frm")), (gd.rep _), (by rw [len_rep]; exact l3), fun H2 F2 r2 => ⟨rfl, ?_⟩⟩
    exact k _ dx2 pp2 _ _ (by walk_at "frm") (by walk_at "nn") r2 (.of (by walk_at "hp")) ((hps.rep c.toNat).same (by walk_at "frm"))
/-! Run.__rmul__ -/
theorem sc_Runu__rmulu_ : FnScope ["self", "other"] ["self", "other"] (defScope s_Runu__rmulu_) := ⟨rfl, rfl, rfl, by decide +kernel, rfl, by decide +kernel, by decide +kernel⟩
theorem st_Runu__rmulu_ {v0 v1 : V} : L2.start ["self", "other"] [v0, v1] = [some v0, some v1] := rfl
abbrev sp_Runu__rmulu_ (K : PySem.W.Frag) (A : Adr) : Sp := fun vs H Q _ => ∃ (p dx q : Addr) (xs : List V) (ps : List (Int × Str)) (c : Int), vs = [.ref p, .int c] ∧ H p = some (.ins A.c_Run dx (fU q)) ∧ SqT K H q xs ∧ Pcs H xs ps ∧ GoodP ps ∧ ps.length ≤ 100 ∧ 0 ≤ c ∧ c ≤ 100 ∧ c.toNat * ps.length ≤ 100 ∧ ∀ (r dr : Addr) (q' : Addr) (zs : List V) (H' : Hp), Same H H' → H r = none → H' r = some (.ins A.c_Run dr (fU q')) → SqT K H' q' zs → Pcs H' zs ((List.replicate c.toNat ps).flatten) → Q (.ref r) H'
theorem ok_Runu__rmulu_ (T : Txt w K mg A) : FnOk P w K mg base CX0 8 A.f_Runu__rmulu_ A.d_Runu__rmulu_ ["self", "other"] (sp_Runu__rmulu_ K A) := by
  refine T.F_Runu__rmulu_.ok sc_Runu__rmulu_ (fun vs H Q E h => ?_) (fun cdv Ar outer s H vs Q E hr h => ?_)
  · obtain ⟨p, dx, q, xs, ps, c, rfl, hp, hq, hps, gd, l1, c0, c1, l3, k⟩ := h
    rfl
  · obtain ⟨p, dx, q, xs, ps, c, rfl, hp, hq, hps, gd, l1, c0, c1, l3, k⟩ := h
    have hu := hu_of hr
    have t_q_WORDS := T.q_WORDS
    have t_i_Run := T.i_Run
    have t_kt_Run_Run := T.kt_Run_Run
    have t_kt_list_Run := T.kt_list_Run
    have t_nf_Run_Run := T.nf_Run_Run
    have t_nf_list_Run := T.nf_list_Run
    have t_k_Run := T.k_Run
    skip
    refine ⟨_, (pss_one (ps_ret (pe_op (Own.opT (op := .Mult) (ok_Runu__mulu_ T) (hr.mono (by decide)) T.O_Runu__mulu__T T.b_Runu__mulu_ pass0) (pv 0) (pv 1)))), ?_⟩
    try dsimp only [L2.cxOf, L2.Cx.nox, L2.Cx.wish]
    try rw [st_Runu__rmulu_]
    with_reducible refine Rd.ret (Rd.op (Rd.var (by walk_at "vr") (Rd.var (by walk_at "vr") (Own.opT2 (by walk_at "hp") (by walk_at "ty0") ?_))))
    refine ⟨_, _, _, _, _, _, rfl, (by walk_at "hp"), (by walk_at "hpt"), (by walk_at "pcs"), (by assumption), (by omega), (by omega), (by omega), l3, fun r1 dr1 q1 zs1 H1 S1 nr1 hr1 hq1 hz1 => ?_⟩
    exact k _ _ _ _ _ (by walk_at "frm") (by walk_at "nn") (by assumption) (by assumption) (by assumption)
/-! Run.__eq__ -/
theorem sc_Runu__equ_ : FnScope ["self", "other"] ["self", "other"] (defScope s_Runu__equ_) := ⟨rfl, rfl, rfl, by decide +kernel, rfl, by decide +kernel, by decide +kernel⟩
theorem st_Runu__equ_ {v0 v1 : V} : L2.start ["self", "other"] [v0, v1] = [some v0, some v1] := rfl
abbrev sp_Runu__equ_ (K : PySem.W.Frag) (A : Adr) : Sp := fun vs H Q _ => ∃ (p dx q : Addr) (xs : List V) (ps : List (Int × Str)) (y : V), vs = [.ref p, y] ∧ H p = some (.ins A.c_Run dx (fU q)) ∧ SqT K H q xs ∧ Pcs H xs ps ∧ GoodP ps ∧ ps.length ≤ 100 ∧ ((∃ (p2 dx2 q2 : Addr) (ys : List V) (qs : List (Int × Str)), y = .ref p2 ∧ H p2 = some (.ins A.c_Run dx2 (fU q2)) ∧ SqT K H q2 ys ∧ Pcs H ys qs ∧ GoodP qs ∧ qs.length ≤ 100 ∧ ∀ H', Same H H' → Q (.bl (decide (ps = qs))) H') ∨ (∃ (l : Addr) (zs : List V), y = .ref l ∧ H l = some (.lst zs) ∧ Q (.bl false) H))
theorem ok_Runu__equ_ (T : Txt w K mg A) : FnOk P w K mg base CX0 4 A.f_Runu__equ_ A.d_Runu__equ_ ["self", "other"] (sp_Runu__equ_ K A) := by
  refine T.F_Runu__equ_.ok sc_Runu__equ_ (fun vs H Q E h => ?_) (fun cdv Ar outer s H vs Q E hr h => ?_)
  · obtain ⟨p, dx, q, xs, ps, y, rfl, hp, hq, hps, gd, l1, hy⟩ := h
    rfl
  · obtain ⟨p, dx, q, xs, ps, y, rfl, hp, hq, hps, gd, l1, hy⟩ := h
    have hu := hu_of hr
    have t_q_WORDS := T.q_WORDS
    have t_i_Run := T.i_Run
    have t_kt_Run_Run := T.kt_Run_Run
    have t_kt_list_Run := T.kt_list_Run
    have t_nf_Run_Run := T.nf_Run_Run
    have t_nf_list_Run := T.nf_list_Run
    have t_k_Run := T.k_Run
    rcases hy with ⟨p2, dx2, q2, ys, qs, rfl, hp2, hq2, hqs, gd2, l3, k⟩ | ⟨l, zs, rfl, hl, k⟩
    · skip
      refine ⟨_, (pss_one (ps_ret (pe_and (pe_callB (Rd.isi (K := K) rfl) (by rfl) T.n_isinstance (by decide +kernel) (pa_cons (pv 1) (pa_cons (pe_glob (v := .ref A.c_Run) rfl T.m_Run rfl) pa_nil))) (pe_one (pe_cmpR (op_eqD hr.units) (pe_call (ok_pieces_of T) (hr.mono (by decide)) (by rfl) T.m_pieces_of T.F_pieces_of.kp T.b_pieces_of .nil pass0 (pa_cons (pv 0) pa_nil)) (pe_call (ok_pieces_of T) (hr.mono (by decide)) (by rfl) T.m_pieces_of T.F_pieces_of.kp T.b_pieces_of .nil pass0 (pa_cons (pv 1) pa_nil)) (nomark _)))))), ?_⟩
      try dsimp only [L2.cxOf, L2.Cx.nox, L2.Cx.wish]
      try rw [st_Runu__equ_]
      with_reducible refine Rd.ret (Rd.andV (Rd.cB (Rd.cons (Rd.var (by walk_at "vr") (Rd.cons (Rd.c (Rd.nil ?_)))))))
      refine ⟨_, _, _, _, _, rfl, (by walk_at "clsv"), (by walk_at "tyx"), (by walk_at "kit"), ?_⟩
      with_reducible refine Rd.bl (Rd.iteT (by walk_at "bT") (Rd.op (Rd.call (Rd.cons (Rd.var (by walk_at "vr") (Rd.nil ?_))))))
      refine ⟨_, _, _, _, _, rfl, (by walk_at "hp"), (by walk_at "hpt"), (by walk_at "pcs"), (by assumption), (by omega), fun l1 H1 S1 hl1 => ?_⟩
      with_reducible refine Rd.call (Rd.cons (Rd.var (by walk_at "vr") (Rd.nil ?_)))
      refine ⟨_, _, _, _, _, rfl, (by walk_at "hp"), (by walk_at "hpt"), (by walk_at "pcs"), (by assumption), (by omega), fun l2 H2 S2 hl2 => ?_⟩
      refine ⟨_, _, (by walk_at "dpt"), (by walk_at "dpt"), (by walk_at "shp"), (by walk_at "shp"), ?_⟩
      rw [Rd.eqv_tupP]
      exact k _ (by walk_at "frm")
    · skip
      refine ⟨_, (pss_one (ps_ret (pe_and (pe_callB (Rd.isi (K := K) rfl) (by rfl) T.n_isinstance (by decide +kernel) (pa_cons (pv 1) (pa_cons (pe_glob (v := .ref A.c_Run) rfl T.m_Run rfl) pa_nil))) (pe_one Rd.peN)))), ?_⟩
      try dsimp only [L2.cxOf, L2.Cx.nox, L2.Cx.wish]
      try rw [st_Runu__equ_]
      with_reducible refine Rd.ret (Rd.andV (Rd.cB (Rd.cons (Rd.var (by walk_at "vr") (Rd.cons (Rd.c (Rd.nil ?_)))))))
      refine ⟨_, _, _, _, _, rfl, (by walk_at "clsv"), (by walk_at "tyx"), (by walk_at "kit"), ?_⟩
      with_reducible refine Rd.bl (Rd.iteF (by walk_at "bF") ?_)
      exact k
/-! Run.__len__ -/
theorem sc_Runu__lenu_ : FnScope ["self"] ["self"] (defScope s_Runu__lenu_) := ⟨rfl, rfl, rfl, by decide +kernel, rfl, by decide +kernel, by decide +kernel⟩
theorem st_Runu__lenu_ {v0 : V} : L2.start ["self"] [v0] = [some v0] := rfl
abbrev sp_Runu__lenu_ (K : PySem.W.Frag) (A : Adr) : Sp := fun vs H Q _ => ∃ (p dx q : Addr) (xs : List V) (ps : List (Int × Str)), vs = [.ref p] ∧ H p = some (.ins A.c_Run dx (fU q)) ∧ SqT K H q xs ∧ Pcs H xs ps ∧ GoodP ps ∧ ps.length ≤ 100 ∧ Q (.int ps.length) H
theorem ok_Runu__lenu_ (T : Txt w K mg A) : FnOk P w K mg base CX0 1 A.f_Runu__lenu_ A.d_Runu__lenu_ ["self"] (sp_Runu__lenu_ K A) := by
  refine T.F_Runu__lenu_.ok sc_Runu__lenu_ (fun vs H Q E h => ?_) (fun cdv Ar outer s H vs Q E hr h => ?_)
  · obtain ⟨p, dx, q, xs, ps, rfl, hp, hq, hps, gd, l1, k⟩ := h
    rfl
  · obtain ⟨p, dx, q, xs, ps, rfl, hp, hq, hps, gd, l1, k⟩ := h
    have hu := hu_of hr
    have t_q_WORDS := T.q_WORDS
    have t_i_Run := T.i_Run
    have t_kt_Run_Run := T.kt_Run_Run
    have t_kt_list_Run := T.kt_list_Run
    have t_nf_Run_Run := T.nf_Run_Run
    have t_nf_list_Run := T.nf_list_Run
    have t_k_Run := T.k_Run
    refine ⟨_, (pss_one (ps_ret (pe_callB call_len_seq (by rfl) T.n_len PySem.boot_len (pa_cons (pe_fld (pv 0) rfl) pa_nil)))), ?_⟩
    try dsimp only [L2.cxOf, L2.Cx.nox, L2.Cx.wish]
    try rw [st_Runu__lenu_]
    with_reducible refine Rd.ret (Rd.cB (Rd.cons (Rd.fld (Rd.var (by walk_at "vr") (⟨_, _, _, _, _, rfl, (by walk_at "hp"), T.k_Run, T.n_Run_pieces, (by walk_at "lk"), (Rd.nil (⟨_, _, rfl, (by walk_at "hpq"), ?_⟩))⟩)))))
    rw [hps.len]
    exact k
/-! Run.__getitem__ -/
theorem sc_Runu__getitemu_ : FnScope ["self", "at"] ["self", "at"] (defScope s_Runu__getitemu_) := ⟨rfl, rfl, rfl, by decide +kernel, rfl, by decide +kernel, by decide +kernel⟩
theorem st_Runu__getitemu_ {v0 v1 : V} : L2.start ["self", "at"] [v0, v1] = [some v0, some v1] := rfl
abbrev sp_Runu__getitemu_ (K : PySem.W.Frag) (A : Adr) : Sp := fun vs H Q _ => ∃ (p dx q : Addr) (xs : List V) (ps : List (Int × Str)) (j : Int), vs = [.ref p, .int j] ∧ H p = some (.ins A.c_Run dx (fU q)) ∧ SqT K H q xs ∧ Pcs H xs ps ∧ GoodP ps ∧ ps.length ≤ 100 ∧ 0 ≤ j ∧ j < (ps.length : Int) ∧ ∀ v, xs[j.toNat]? = some v → Q v H
theorem ok_Runu__getitemu_ (T : Txt w K mg A) : FnOk P w K mg base CX0 3 A.f_Runu__getitemu_ A.d_Runu__getitemu_ ["self", "at"] (sp_Runu__getitemu_ K A) := by
  refine T.F_Runu__getitemu_.ok sc_Runu__getitemu_ (fun vs H Q E h => ?_) (fun cdv Ar outer s H vs Q E hr h => ?_)
  · obtain ⟨p, dx, q, xs, ps, j, rfl, hp, hq, hps, gd, l1, j0, j1, k⟩ := h
    rfl
  · obtain ⟨p, dx, q, xs, ps, j, rfl, hp, hq, hps, gd, l1, j0, j1, k⟩ := h
    have hu := hu_of hr
    have t_q_WORDS := T.q_WORDS
    have t_i_Run := T.i_Run
    have t_kt_Run_Run := T.kt_Run_Run
    have t_kt_list_Run := T.kt_list_Run
    have t_nf_Run_Run := T.nf_Run_Run
    have t_nf_list_Run := T.nf_list_Run
    have t_k_Run := T.k_Run
    have l2 := hps.len
    obtain ⟨v9, hv9⟩ : ∃ v, xs[j.toNat]? = some v := ⟨_, List.getElem?_eq_getElem (by omega)⟩
    refine ⟨_, (pss_cons (ps_if (pt_not (pt_val (pe_call (ok_is_whole_from T) (hr.mono (by decide)) (by rfl) T.m_is_whole_from T.F_is_whole_from.kp T.b_is_whole_from .nil pass0 (pa_cons (pv 1) (pa_cons pe_int (pa_cons (pe_op op_sub (pe_callB call_len_seq (by rfl) T.n_len PySem.boot_len (pa_cons (pe_fld (pv 0) rfl) pa_nil)) pe_int) pa_nil)))))) (pss_one ps_never) pss_nil)
      (pss_one (ps_ret (pe_ix (Rd.ixTK rfl) (pe_fld (pv 0) rfl) (pv 1) (fun _ _ => rfl))))), ?_⟩
    try dsimp only [L2.cxOf, L2.Cx.nox, L2.Cx.wish]
    try rw [st_Runu__getitemu_]
    with_reducible refine Rd.seq (Rd.ifS (Rd.not (Rd.tb (Rd.call (Rd.cons (Rd.var (by walk_at "vr") (Rd.cons (Rd.c (Rd.cons (Rd.op (Rd.cB ?_)))))))))))
    with_reducible refine Rd.cons (Rd.fld (Rd.var (by walk_at "vr") (⟨_, _, _, _, _, rfl, (by walk_at "hp"), T.k_Run, T.n_Run_pieces, (by walk_at "lk"), (Rd.nil (⟨_, _, rfl, (by walk_at "hpq"), (Rd.c (Rd.i0 (Rd.nil ?_)))⟩))⟩)))
    refine ⟨_, _, _, rfl, .inl ⟨_, rfl, (by walk_at "sc"), (by walk_at "sc"), ?_⟩⟩
    with_reducible refine Rd.bl (Rd.iteF (by walk_at "bF") (Rd.next (Rd.ret (Rd.op (Rd.fld (Rd.var (by walk_at "vr") (⟨_, _, _, _, _, rfl, (by walk_at "hp"), T.k_Run, T.n_Run_pieces, (by walk_at "lk"), (Rd.var (by walk_at "vr") ?_)⟩)))))))
    refine Rd.ixT (by walk_at "hpt") (show atI xs j = some v9 from by rw [show j = ((j.toNat : Nat) : Int) by omega]; exact atI_nat hv9) ?_
    exact k _ hv9
/-! _law_source -/
theorem sc_l_source : FnScope ["_law_script", "_law_turn", "_law_cell", "_law_number", "_law_seed"] ["_law_script", "_law_turn"] (defScope s_l_source) := ⟨rfl, rfl, rfl, by decide +kernel, rfl, by decide +kernel, by decide +kernel⟩
abbrev sp_l_source (K : PySem.W.Frag) (A : Adr) : Sp := spSource K
theorem ok_l_source (T : Txt w K mg A) : FnOk P w K mg base CX0 1 A.f_l_source A.d_l_source ["_law_script", "_law_turn"] (sp_l_source K A) := by
  refine T.F_l_source.ok sc_l_source (fun vs H Q E h => ?_) (fun cdv Ar outer s H vs Q E hr h => ?_)
  · obtain ⟨a, ns, t, rfl, ha, ht, ht2, k⟩ := h
    rfl
  · obtain ⟨a, ns, t, rfl, ha, ht, ht2, k⟩ := h
    have hu := hu_of hr
    have t_q_WORDS := T.q_WORDS
    have t_i_Run := T.i_Run
    have t_kt_Run_Run := T.kt_Run_Run
    have t_kt_list_Run := T.kt_list_Run
    have t_nf_Run_Run := T.nf_Run_Run
    have t_nf_list_Run := T.nf_list_Run
    have t_k_Run := T.k_Run
    refine ⟨_, (pss_cons (ps_set (i := 2) sc_l_source.nd rfl (Or.inl rfl) pe_int)
      (pss_cons (ps_if (pt_cmpR op_lt (pv 1) (pe_callB call_len_seq (by rfl) T.n_len PySem.boot_len (pa_cons (pv 0) pa_nil)) (nomark _)) (pss_one (ps_set (i := 2) sc_l_source.nd rfl (Or.inl rfl) (pe_ix (Rd.ixLK rfl) (pv 0) (pv 1) (fun _ _ => rfl)))) pss_nil)
      (pss_cons (ps_set (i := 3) sc_l_source.nd rfl (Or.inl rfl) (pe_callB call_abs (by rfl) T.n_abs (by decide +kernel) (pa_cons (pv 2) pa_nil))) (pss_cons (ps_set (i := 4) sc_l_source.nd rfl (Or.inl rfl) (pe_op op_mod (pe_callTy call_int1 (by rfl) T.n_int (by decide +kernel) (pa_cons (pe_op op_add (pe_op op_add (pe_op op_mulW (pe_op op_mod (pe_callTy call_int1 (by rfl) T.n_int (by decide +kernel) (pa_cons (pv 3) pa_nil)) pe_int) pe_int) (pe_op op_mulW pe_int (pv 1))) pe_int) pa_nil)) pe_int)) (pss_cons (ps_if (pt_cmpR op_lt (pv 3) (pe_op op_pow pe_int pe_int) (nomark _)) (pss_one (ps_set (i := 3) sc_l_source.nd rfl (Or.inl rfl) pe_int)) pss_nil) (pss_one (ps_ret (pe_lst (pa_cons (pv 3) (pa_cons (pv 4) pa_nil)))))))))), ?_⟩
    try dsimp only [L2.cxOf, L2.Cx.nox, L2.Cx.wish]
    with_reducible refine Rd.seq (Rd.asg (Rd.c (Rd.name (Rd.seq (Rd.ifS (Rd.test (Rd.op (Rd.var (by walk_at "vr") (Rd.cB (Rd.cons (Rd.var (by walk_at "vr") ?_)))))))))))
    with_reducible refine Rd.nil (⟨_, _, rfl, (by walk_at "hpq"), (Rd.i0 (Rd.bl ?_))⟩)
    refine Rd.ite (fun h0 => ?_) (fun h0 => ?_)
    · try simp only [decide_eq_true_eq, Bool.not_eq_true', decide_eq_false_iff_not, Bool.not_eq_true, Bool.not_eq_eq_eq_not, Bool.not_true, Bool.not_false] at h0
      with_reducible refine Rd.asg (Rd.op (Rd.var (by walk_at "vr") (Rd.var (by walk_at "vr") ?_)))
      obtain ⟨z, hz⟩ := atI_map ht (by simpa using h0)
      refine Rd.ixL (by walk_at "hpl") hz ?_
      with_reducible refine Rd.name (Rd.seq (Rd.asg (Rd.cB (Rd.cons (Rd.var (by walk_at "vr") (Rd.nil (⟨_, rfl, (Rd.name (Rd.seq (Rd.asg (Rd.op ?_))))⟩)))))))
      with_reducible refine Rd.cB (Rd.cons (Rd.op (Rd.op (Rd.op (Rd.op (Rd.cB (Rd.cons (Rd.var (by walk_at "vr") (Rd.nil ((.inl ⟨_, rfl, (Rd.c ?_)⟩)))))))))))
      with_reducible refine Rd.iC (by walk_at "sc") (Rd.c (Rd.iC (by walk_at "scm") (Rd.op (Rd.c (Rd.var (by walk_at "vr") (Rd.iC (by walk_at "scm") (Rd.i0 (Rd.c (Rd.i0 (Rd.nil ((.inl ⟨_, rfl, ?_⟩))))))))))))
      with_reducible refine Rd.c (Rd.iC (by walk_at "sc") (Rd.name (Rd.seq (Rd.ifS (Rd.test (Rd.op (Rd.var (by walk_at "vr") (Rd.op (Rd.c (Rd.c (Rd.iC (by walk_at "scp") ?_)))))))))))
      with_reducible refine Rd.i0 (Rd.bl ?_)
      refine Rd.ite (fun h1 => ?_) (fun h1 => ?_)
      · try simp only [decide_eq_true_eq, Bool.not_eq_true', decide_eq_false_iff_not, Bool.not_eq_true, Bool.not_eq_eq_eq_not, Bool.not_true, Bool.not_false] at h1
        with_reducible refine Rd.asg (Rd.c (Rd.name (Rd.ret (Rd.lst (Rd.cons (Rd.var (by walk_at "vr") (Rd.cons (Rd.var (by walk_at "vr") (Rd.nil (Rd.laid (by walk_at "ll") ?_))))))))))
        intro p0 np0
        exact k _ _ np0 ⟨_, _, rfl, (by walk_at "sc"), (by walk_at "sc"), (by walk_at "sc")⟩
      · try simp only [decide_eq_true_eq, Bool.not_eq_true', decide_eq_false_iff_not, Bool.not_eq_true, Bool.not_eq_eq_eq_not, Bool.not_true, Bool.not_false, Int.not_lt, Int.not_le, Decidable.not_not] at h1
        with_reducible refine Rd.next (Rd.ret (Rd.lst (Rd.cons (Rd.var (by walk_at "vr") (Rd.cons (Rd.var (by walk_at "vr") (Rd.nil (Rd.laid (by walk_at "ll") ?_))))))))
        intro p0 np0
        exact k _ _ np0 ⟨_, _, rfl, (by walk_at "sc"), (by walk_at "sc"), (by walk_at "sc")⟩
    · try simp only [decide_eq_true_eq, Bool.not_eq_true', decide_eq_false_iff_not, Bool.not_eq_true, Bool.not_eq_eq_eq_not, Bool.not_true, Bool.not_false, Int.not_lt, Int.not_le, Decidable.not_not] at h0
      with_reducible refine Rd.next (Rd.seq (Rd.asg (Rd.cB (Rd.cons (Rd.var (by walk_at "vr") (Rd.nil (⟨_, rfl, (Rd.name (Rd.seq (Rd.asg (Rd.op ?_))))⟩)))))))
      with_reducible refine Rd.cB (Rd.cons (Rd.op (Rd.op (Rd.op (Rd.op (Rd.cB (Rd.cons (Rd.var (by walk_at "vr") (Rd.nil ((.inl ⟨_, rfl, (Rd.c ?_)⟩)))))))))))
      with_reducible refine Rd.iC (by walk_at "sc") (Rd.c (Rd.iC (by walk_at "scm") (Rd.op (Rd.c (Rd.var (by walk_at "vr") (Rd.iC (by walk_at "scm") (Rd.i0 (Rd.c (Rd.i0 (Rd.nil ((.inl ⟨_, rfl, ?_⟩))))))))))))
      with_reducible refine Rd.c (Rd.iC (by walk_at "sc") (Rd.name (Rd.seq (Rd.ifS (Rd.test (Rd.op (Rd.var (by walk_at "vr") (Rd.op (Rd.c (Rd.c (Rd.iC (by walk_at "scp") ?_)))))))))))
      with_reducible refine Rd.i0 (Rd.bl ?_)
      refine Rd.ite (fun h1 => ?_) (fun h1 => ?_)
      · try simp only [decide_eq_true_eq, Bool.not_eq_true', decide_eq_false_iff_not, Bool.not_eq_true, Bool.not_eq_eq_eq_not, Bool.not_true, Bool.not_false] at h1
        with_reducible refine Rd.asg (Rd.c (Rd.name (Rd.ret (Rd.lst (Rd.cons (Rd.var (by walk_at "vr") (Rd.cons (Rd.var (by walk_at "vr") (Rd.nil (Rd.laid (by walk_at "ll") ?_))))))))))
        intro p0 np0
        exact k _ _ np0 ⟨_, _, rfl, (by walk_at "sc"), (by walk_at "sc"), (by walk_at "sc")⟩
      · try simp only [decide_eq_true_eq, Bool.not_eq_true', decide_eq_false_iff_not, Bool.not_eq_true, Bool.not_eq_eq_eq_not, Bool.not_true, Bool.not_false, Int.not_lt, Int.not_le, Decidable.not_not] at h1
        with_reducible refine Rd.next (Rd.ret (Rd.lst (Rd.cons (Rd.var (by walk_at "vr") (Rd.cons (Rd.var (by walk_at "vr") (Rd.nil (Rd.laid (by walk_at "ll") ?_))))))))
        intro p0 np0
        exact k _ _ np0 ⟨_, _, rfl, (by walk_at "sc"), (by walk_at "sc"), (by walk_at "sc")⟩
/-! _law_draw -/
theorem sc_l_draw : FnScope ["_law_source_here", "_law_amount", "_law_digit", "_law_found"] ["_law_source_here", "_law_amount"] (defScope s_l_draw) := ⟨rfl, rfl, rfl, by decide +kernel, rfl, by decide +kernel, by decide +kernel⟩
abbrev sp_l_draw (K : PySem.W.Frag) (A : Adr) : Sp := spDraw
theorem ok_l_draw (T : Txt w K mg A) : FnOk P w K mg base CX0 1 A.f_l_draw A.d_l_draw ["_law_source_here", "_law_amount"] (sp_l_draw K A) := by
  refine T.F_l_draw.ok sc_l_draw (fun vs H Q E h => ?_) (fun cdv Ar outer s H vs Q E hr h => ?_)
  · obtain ⟨a, o, m, rfl, ha, ho, hm, hm2, k⟩ := h
    rfl
  · obtain ⟨a, o, m, rfl, ha, ho, hm, hm2, k⟩ := h
    have hu := hu_of hr
    have t_q_WORDS := T.q_WORDS
    have t_i_Run := T.i_Run
    have t_kt_Run_Run := T.kt_Run_Run
    have t_kt_list_Run := T.kt_list_Run
    have t_nf_Run_Run := T.nf_Run_Run
    have t_nf_list_Run := T.nf_list_Run
    have t_k_Run := T.k_Run
    obtain ⟨x, y, rfl, hx, hy, hy2⟩ := ho
    have e1 := Int.emod_nonneg x (show m ≠ 0 by first | omega | decide)
    have e2 := Int.emod_lt_of_pos x hm
    have e3 := Int.ediv_nonneg hx (show 0 ≤ m by first | omega | decide)
    refine ⟨_, (pss_cons (ps_if (pt_cmpR op_gt (pe_ix (Rd.ixLK rfl) (pv 0) pe_int (fun _ _ => rfl)) pe_int (nomark _)) (pss_cons (ps_set (i := 2) sc_l_draw.nd rfl (Or.inl rfl) (pe_op op_mod (pe_callTy call_int1 (by rfl) T.n_int (by decide +kernel) (pa_cons (pe_ix (Rd.ixLK rfl) (pv 0) pe_int (fun _ _ => rfl)) pa_nil)) (pv 1)))
      (pss_cons (ps_asg (pe_op op_fdivW (pe_ix (Rd.ixLK rfl) (pv 0) pe_int (fun _ _ => rfl)) (pv 1)) (pg_sub (pv 0) pe_int set_list))
      (pss_one (ps_ret (pv 2))))) pss_nil)
      (pss_cons (ps_asg (pe_op op_mod (pe_callTy call_int1 (by rfl) T.n_int (by decide +kernel) (pa_cons (pe_op op_add (pe_op op_mulW (pe_ix (Rd.ixLK rfl) (pv 0) pe_int (fun _ _ => rfl)) pe_int) pe_int) pa_nil)) pe_int) (pg_sub (pv 0) pe_int set_list))
      (pss_cons (ps_set (i := 3) sc_l_draw.nd rfl (Or.inl rfl) (pe_op op_fdivW (pe_op op_mod (pe_callTy call_int1 (by rfl) T.n_int (by decide +kernel) (pa_cons (pe_op op_mulW (pe_ix (Rd.ixLK rfl) (pv 0) pe_int (fun _ _ => rfl)) (pe_ix (Rd.ixLK rfl) (pv 0) pe_int (fun _ _ => rfl))) pa_nil)) pe_int) pe_int))
      (pss_cons (ps_if (pt_cmpR op_gt (pv 1) (pe_op op_pow pe_int pe_int) (nomark _)) (pss_cons (ps_asg (pe_op op_mod (pe_callTy call_int1 (by rfl) T.n_int (by decide +kernel) (pa_cons (pe_op op_add (pe_op op_mulW (pe_ix (Rd.ixLK rfl) (pv 0) pe_int (fun _ _ => rfl)) pe_int) pe_int) pa_nil)) pe_int) (pg_sub (pv 0) pe_int set_list))
      (pss_one (ps_set (i := 3) sc_l_draw.nd rfl (Or.inl rfl) (pe_op op_add (pe_op op_mulW (pv 3) pe_int) (pe_op op_fdivW (pe_op op_mod (pe_callTy call_int1 (by rfl) T.n_int (by decide +kernel) (pa_cons (pe_op op_mulW (pe_ix (Rd.ixLK rfl) (pv 0) pe_int (fun _ _ => rfl)) (pe_ix (Rd.ixLK rfl) (pv 0) pe_int (fun _ _ => rfl))) pa_nil)) pe_int) pe_int))))) pss_nil)
      (pss_one (ps_ret (pe_op op_mod (pe_callTy call_int1 (by rfl) T.n_int (by decide +kernel) (pa_cons (pv 3) pa_nil)) (pv 1)))))))), ?_⟩
    try dsimp only [L2.cxOf, L2.Cx.nox, L2.Cx.wish]
    with_reducible refine Rd.seq (Rd.ifS (Rd.test (Rd.op (Rd.op (Rd.var (by walk_at "vr") (Rd.c (Rd.ixL (by walk_at "hpl") (by walk_at "vr") (Rd.c (Rd.i0 (Rd.bl ?_))))))))))
    refine Rd.ite (fun h0 => ?_) (fun h0 => ?_)
    · try simp only [decide_eq_true_eq, Bool.not_eq_true', decide_eq_false_iff_not, Bool.not_eq_true, Bool.not_eq_eq_eq_not, Bool.not_true, Bool.not_false] at h0
      with_reducible refine Rd.seq (Rd.asg (Rd.op (Rd.cB (Rd.cons (Rd.op (Rd.var (by walk_at "vr") (Rd.c (Rd.ixL (by walk_at "hpl") (by walk_at "vr") (Rd.nil ((.inl ⟨_, rfl, (Rd.var (by walk_at "vr") ?_)⟩)))))))))))
      with_reducible refine Rd.iC (by walk_at "sc") (Rd.name (Rd.seq (Rd.asg (Rd.op (Rd.op (Rd.var (by walk_at "vr") (Rd.c (Rd.ixL (by walk_at "hpl") (by walk_at "vr") (Rd.var (by walk_at "vr") (Rd.iC (by walk_at "scd") (Rd.sub ?_)))))))))))
      with_reducible refine Rd.var (by walk_at "vr") (Rd.c (Rd.setL (by walk_at "hp") (by walk_at "ixn") (Rd.ret (Rd.var (by walk_at "vr") ?_))))
      exact k _ _ (by walk_at "sc") (by walk_at "sc") ⟨_, _, rfl, (by walk_at "sc"), (by walk_at "sc"), (by walk_at "sc")⟩
    · try simp only [decide_eq_true_eq, Bool.not_eq_true', decide_eq_false_iff_not, Bool.not_eq_true, Bool.not_eq_eq_eq_not, Bool.not_true, Bool.not_false, Int.not_lt, Int.not_le, Decidable.not_not] at h0
      with_reducible refine Rd.next (Rd.seq (Rd.asg (Rd.op (Rd.cB (Rd.cons (Rd.op (Rd.op (Rd.op (Rd.var (by walk_at "vr") (Rd.c (Rd.ixL (by walk_at "hpl") (by walk_at "vr") ?_)))))))))))
      with_reducible refine Rd.c (Rd.iC (by walk_at "scm") (Rd.c (Rd.i0 (Rd.nil ((.inl ⟨_, rfl, (Rd.c (Rd.iC (by walk_at "sc") (Rd.sub (Rd.var (by walk_at "vr") (Rd.c (Rd.setL (by walk_at "hp") (by walk_at "ixn") ?_))))))⟩))))))
      with_reducible refine Rd.seq (Rd.asg (Rd.op (Rd.op (Rd.cB (Rd.cons (Rd.op (Rd.op (Rd.var (by walk_at "vr") (Rd.c (Rd.ixL (by walk_at "hpl") (by walk_at "vr") (Rd.op ?_)))))))))))
      with_reducible refine Rd.var (by walk_at "vr") (Rd.c (Rd.ixL (by walk_at "hpl") (by walk_at "vr") (Rd.iC (by walk_at "scm") (Rd.nil ((.inl ⟨_, rfl, (Rd.c (Rd.iC (by walk_at "sc") (Rd.c (Rd.iC (by walk_at "scd") (Rd.name (Rd.seq ?_))))))⟩))))))
      with_reducible refine Rd.ifS (Rd.test (Rd.op (Rd.var (by walk_at "vr") (Rd.op (Rd.c (Rd.c (Rd.iC (by walk_at "scp") (Rd.i0 (Rd.bl ?_)))))))))
      refine Rd.ite (fun h1 => ?_) (fun h1 => ?_)
      · try simp only [decide_eq_true_eq, Bool.not_eq_true', decide_eq_false_iff_not, Bool.not_eq_true, Bool.not_eq_eq_eq_not, Bool.not_true, Bool.not_false] at h1
        with_reducible refine Rd.seq (Rd.asg (Rd.op (Rd.cB (Rd.cons (Rd.op (Rd.op (Rd.op (Rd.var (by walk_at "vr") (Rd.c (Rd.ixL (by walk_at "hpl") (by walk_at "vr") (Rd.c ?_)))))))))))
        with_reducible refine Rd.iC (by walk_at "scm") (Rd.c (Rd.i0 (Rd.nil ((.inl ⟨_, rfl, (Rd.c (Rd.iC (by walk_at "sc") (Rd.sub (Rd.var (by walk_at "vr") (Rd.c (Rd.setL (by walk_at "hp") (by walk_at "ixn") (Rd.asg ?_)))))))⟩)))))
        with_reducible refine Rd.op (Rd.op (Rd.var (by walk_at "vr") (Rd.c (Rd.iC (by walk_at "scm") (Rd.op (Rd.op (Rd.cB (Rd.cons (Rd.op (Rd.op (Rd.var (by walk_at "vr") ?_)))))))))))
        with_reducible refine Rd.c (Rd.ixL (by walk_at "hpl") (by walk_at "vr") (Rd.op (Rd.var (by walk_at "vr") (Rd.c (Rd.ixL (by walk_at "hpl") (by walk_at "vr") (Rd.iC (by walk_at "scm") (Rd.nil ((.inl ⟨_, rfl, (Rd.c (Rd.iC (by walk_at "sc") (Rd.c ?_)))⟩)))))))))
        with_reducible refine Rd.iC (by walk_at "scd") (Rd.i0 (Rd.name (Rd.ret (Rd.op (Rd.cB (Rd.cons (Rd.var (by walk_at "vr") (Rd.nil ((.inl ⟨_, rfl, (Rd.var (by walk_at "vr") (Rd.iC (by walk_at "sc") ?_))⟩))))))))))
        (repeat rw [L2.upd_upd])
        exact k _ _ (Int.emod_nonneg _ (by first | omega | decide)) (Int.emod_lt_of_pos _ hm) ⟨_, _, rfl, hx, (by first | omega | decide), (by first | omega | decide)⟩
      · try simp only [decide_eq_true_eq, Bool.not_eq_true', decide_eq_false_iff_not, Bool.not_eq_true, Bool.not_eq_eq_eq_not, Bool.not_true, Bool.not_false, Int.not_lt, Int.not_le, Decidable.not_not] at h1
        with_reducible refine Rd.next (Rd.ret (Rd.op (Rd.cB (Rd.cons (Rd.var (by walk_at "vr") (Rd.nil ((.inl ⟨_, rfl, (Rd.var (by walk_at "vr") (Rd.iC (by walk_at "sc") ?_))⟩))))))))
        (repeat rw [L2.upd_upd])
        exact k _ _ (Int.emod_nonneg _ (by first | omega | decide)) (Int.emod_lt_of_pos _ hm) ⟨_, _, rfl, hx, (by first | omega | decide), (by first | omega | decide)⟩
/-! _law_pick -/
theorem sc_l_pick : FnScope ["_law_source_here", "_law_items"] ["_law_source_here", "_law_items"] (defScope s_l_pick) := ⟨rfl, rfl, rfl, by decide +kernel, rfl, by decide +kernel, by decide +kernel⟩
abbrev sp_l_pick (K : PySem.W.Frag) (A : Adr) : Sp := fun vs H Q _ => ∃ (a l : Addr) (o : HO) (xs : List V), vs = [.ref a, .ref l] ∧ H a = some o ∧ SrcO o ∧ H l = some (.lst xs) ∧ 0 < xs.length ∧ xs.length ≤ 100 ∧ l ≠ a ∧ ∀ (v : V) (o' : HO) (H' : Hp), v ∈ xs → Frm a H H' → H' a = some o' → SrcO o' → Q v H'
theorem ok_l_pick (T : Txt w K mg A) : FnOk P w K mg base CX0 2 A.f_l_pick A.d_l_pick ["_law_source_here", "_law_items"] (sp_l_pick K A) := by
  refine T.F_l_pick.ok sc_l_pick (fun vs H Q E h => ?_) (fun cdv Ar outer s H vs Q E hr h => ?_)
  · obtain ⟨a, l, o, xs, rfl, ha, ho, hl, h0, h1, hne, k⟩ := h
    rfl
  · obtain ⟨a, l, o, xs, rfl, ha, ho, hl, h0, h1, hne, k⟩ := h
    have hu := hu_of hr
    have t_q_WORDS := T.q_WORDS
    have t_i_Run := T.i_Run
    have t_kt_Run_Run := T.kt_Run_Run
    have t_kt_list_Run := T.kt_list_Run
    have t_nf_Run_Run := T.nf_Run_Run
    have t_nf_list_Run := T.nf_list_Run
    have t_k_Run := T.k_Run
    refine ⟨_, (pss_one (ps_ret (pe_ix (Rd.ixLK rfl) (pv 1) (pe_call (ok_l_draw T) (hr.mono (by decide)) (by rfl) T.m_l_draw T.F_l_draw.kp T.b_l_draw .nil pass0 (pa_cons (pv 0) (pa_cons (pe_callB call_len_seq (by rfl) T.n_len PySem.boot_len (pa_cons (pv 1) pa_nil)) pa_nil))) (fun _ _ => rfl)))), ?_⟩
    try dsimp only [L2.cxOf, L2.Cx.nox, L2.Cx.wish]
    with_reducible refine Rd.ret (Rd.op (Rd.var (by walk_at "vr") (Rd.call (Rd.cons (Rd.var (by walk_at "vr") (Rd.cons (Rd.cB (Rd.cons (Rd.var (by walk_at "vr") (Rd.nil (⟨_, _, rfl, (by walk_at "hpq"), ?_⟩)))))))))))
    with_reducible refine Rd.nil ?_
    refine ⟨_, _, _, rfl, (by walk_at "hp"), (by walk_at "sc"), (by walk_at "sc"), (by walk_at "sc"), fun d1 o1 d1a d1b s1 => ?_⟩
    refine Rd.pickAny (by walk_at "hpl") d1a d1b (fun v hv => ?_)
    exact k _ _ _ hv (by walk_at "frm") (by walk_at "hp") (by assumption)
/-! _law_pieces -/
theorem sc_l_pieces : FnScope ["_law_source_here", "_law_many", "_law_pieces_here", "_law_k", "_law_times"] ["_law_source_here", "_law_many"] (defScope s_l_pieces) := ⟨rfl, rfl, rfl, by decide +kernel, rfl, by decide +kernel, by decide +kernel⟩
theorem st_l_pieces {v0 v1 : V} : L2.start ["_law_source_here", "_law_many", "_law_pieces_here", "_law_k", "_law_times"] [v0, v1] = [some v0, some v1, none, none, none] := rfl
abbrev sp_l_pieces (K : PySem.W.Frag) (A : Adr) : Sp := fun vs H Q _ => ∃ (a : Addr) (o : HO) (m : Int), vs = [.ref a, .int m] ∧ H a = some o ∧ SrcO o ∧ 0 ≤ m ∧ m ≤ 10 ∧ ∀ (l : Addr) (us : List V) (ps : List (Int × Str)) (o' : HO) (H' : Hp), Frm a H H' → H' a = some o' → SrcO o' → H l = none → H' l = some (.lst us) → Pcs H' us ps → GoodP ps → (ps.length : Int) = m → Q (.ref l) H'
theorem ok_l_pieces (T : Txt w K mg A) : FnOk P w K mg base CX0 3 A.f_l_pieces A.d_l_pieces ["_law_source_here", "_law_many"] (sp_l_pieces K A) := by
  refine T.F_l_pieces.ok sc_l_pieces (fun vs H Q E h => ?_) (fun cdv Ar outer s H vs Q E hr h => ?_)
  · obtain ⟨a, o, m, rfl, ha, ho, m0, m1, k⟩ := h
    rfl
  · obtain ⟨a, o, m, rfl, ha, ho, m0, m1, k⟩ := h
    have hu := hu_of hr
    have t_q_WORDS := T.q_WORDS
    have t_i_Run := T.i_Run
    have t_kt_Run_Run := T.kt_Run_Run
    have t_kt_list_Run := T.kt_list_Run
    have t_nf_Run_Run := T.nf_Run_Run
    have t_nf_list_Run := T.nf_list_Run
    have t_k_Run := T.k_Run
    refine ⟨_, (pss_cons (ps_set (i := 2) sc_l_pieces.nd rfl (Or.inl rfl) (pe_lst pa_nil))
      (pss_cons (ps_for PassesOwn.never rfl (pi_range1 (by rfl) T.n_range (pa_cons (pv 1) pa_nil)) (pg_name (i := 3) sc_l_pieces.nd rfl (Or.inl rfl)) (pss_cons (ps_set (i := 4) sc_l_pieces.nd rfl (Or.inl rfl) (pe_call (ok_l_draw T) (hr.mono (by decide)) (by rfl) T.m_l_draw T.F_l_draw.kp T.b_l_draw .nil pass0 (pa_cons (pv 0) (pa_cons (pe_ix (Rd.ixLK rfl) (pe_lst (pa_cons pe_int (pa_cons pe_int (pa_cons (pe_op op_add (pe_op op_pow pe_int pe_int) pe_int) pa_nil)))) (pe_call (ok_l_draw T) (hr.mono (by decide)) (by rfl) T.m_l_draw T.F_l_draw.kp T.b_l_draw .nil pass0 (pa_cons (pv 0) (pa_cons pe_int pa_nil))) (fun _ _ => rfl)) pa_nil))))
      (pss_one (ps_expr (pe_bm PySem.F.plainAttrs_list PySem.F.slot_list_append PySem.F.type_list_append mt_append (pv 2) (pa_cons (pe_tup (pa_cons (pv 4) (pa_cons (pe_call (ok_l_pick T) (hr.mono (by decide)) (by rfl) T.m_l_pick T.F_l_pick.kp T.b_l_pick .nil pass0 (pa_cons (pv 0) (pa_cons (pe_lst (pa_cons pe_str (pa_cons pe_str (pa_cons pe_str pa_nil)))) pa_nil))) pa_nil))) pa_nil))))))
      (pss_one (ps_ret (pv 2))))), ?_⟩
    try dsimp only [L2.cxOf, L2.Cx.nox, L2.Cx.wish]
    try rw [st_l_pieces]
    with_reducible refine Rd.seq (Rd.asg (Rd.lst (Rd.nil (Rd.laid (by walk_at "ll") ?_))))
    intro p0 np0
    with_reducible refine Rd.name ?_
    try dsimp only [Int.reduceToNat, List.set]
    have nl0 : p0 ≠ a := ne_none' np0 ha
    have npH : H p0 = none := np0
    with_reducible refine Rd.seq (Rd.fr (Rd.rng1 (Rd.cons (Rd.var (by walk_at "vr") (Rd.nil (⟨_, rfl, (by walk_at "sc"), (by walk_at "sc"), ?_⟩))))))
    refine for_range (lo := 0) (fun (i : Nat) (σ : L2.St) (H' : Hp) => ∃ (vk vt : Option V) (oo : HO) (vs : List V) (ps : List (Int × Str)), σ = [some (.ref a), some (.int m), some (.ref p0), vk, vt] ∧ Frm a H H' ∧ H' a = some oo ∧ SrcO oo ∧ H' p0 = some (.lst vs) ∧ Pcs H' vs ps ∧ GoodP ps ∧ ps.length = i) ⟨_, _, _, [], [], rfl, (by walk_at "frm"), (by walk_at "hp"), (by with_reducible assumption), (by walk_at "hp"), trivial, GoodP.nil, rfl⟩ (fun i σ H0 hi ⟨vk, vt, oo, vs, ps, es, F0, ha0, so0, hl0, hps, gd, ln⟩ => ?_) (fun σ H0 ⟨vk, vt, oo, vs, ps, es, F0, ha0, so0, hl0, hps, gd, ln⟩ => ?_)
    · subst es
      have al9 : vs.length ≤ 20 := by rw [hps.len]; omega
      with_reducible refine Rd.name (Rd.seq (Rd.asg (Rd.call (Rd.cons (Rd.var (by walk_at "vr") (Rd.cons (Rd.op (Rd.lst (Rd.cons (Rd.c (Rd.cons ?_)))))))))))
      with_reducible refine Rd.c (Rd.cons (Rd.op (Rd.op (Rd.c (Rd.c (Rd.iC (by walk_at "scp") (Rd.c (Rd.i0 (Rd.nil (Rd.laid (by walk_at "ll") ?_))))))))))
      intro p1 np1
      with_reducible refine Rd.call (Rd.cons (Rd.var (by walk_at "vr") (Rd.cons (Rd.c (Rd.nil ?_)))))
      refine ⟨_, _, _, rfl, (by walk_at "hp"), (by walk_at "sc"), (by walk_at "sc"), (by walk_at "sc"), fun d1 o1 d1a d1b s1 => ?_⟩
      refine Rd.pick (ns := [4, 40, 10000000000000000000000000000000000000001]) (lo := 4) (hi := 10000000000000000000000000000000000000001) (by decide) (by walk_at "hpl") (by walk_at "vr") (by walk_at "sc") (by show (_ : Int) < 3; walk_at "sc") (fun n_0 m_0 na_0 nb_0 => ?_)
      with_reducible refine Rd.nil ?_
      refine ⟨_, _, _, rfl, (by walk_at "hp"), (by walk_at "sc"), (by walk_at "sc"), (by walk_at "sc"), fun d2 o2 d2a d2b s2 => ?_⟩
      with_reducible refine Rd.name ?_
      try dsimp only [Int.reduceToNat, List.set]
      with_reducible refine Rd.drop ?_
      try unfold tBM
      with_reducible refine Rd.var (by walk_at "vr") ?_
      refine ⟨Or.inl ⟨rfl, _, (by walk_at "hpl")⟩, ?_⟩
      with_reducible refine Rd.cons (Rd.tup (Rd.cons (Rd.var (by walk_at "vr") (Rd.cons (Rd.call (Rd.cons (Rd.var (by walk_at "vr") (Rd.cons (Rd.lst (Rd.cons (Rd.c ?_)))))))))))
      with_reducible refine Rd.cons (Rd.c (Rd.cons (Rd.c (Rd.nil (Rd.laid (by walk_at "ll") ?_)))))
      intro p3 np3
      with_reducible refine Rd.nil ?_
      refine ⟨_, _, _, _, rfl, (by walk_at "hp"), (by walk_at "sc"), (by walk_at "hp"), (by exact Nat.le_of_ble_eq_true rfl), (by exact Nat.le_of_ble_eq_true rfl), (by walk_at "ne"), fun vP oP HP_ mP FP rP soP => ?_⟩
      obtain ⟨wd, rfl, hwd⟩ : ∃ w : Str, vP = .str w ∧ w ∈ wRun := by
        simp only [List.mem_cons, List.not_mem_nil, or_false] at mP
        rcases mP with rfl | rfl | rfl <;> exact ⟨_, rfl, by decide +kernel⟩
      with_reducible refine Rd.nil (Rd.laid (by walk_at "ll") ?_)
      intro p2 np2
      with_reducible refine Rd.nil ?_
      refine ⟨_, _, _, rfl, rfl, (by walk_at "hp"), (by walk_at "sz"), ?_⟩
      exact ⟨_, _, _, vs ++ [_], ps ++ [(_, wd)], rfl, (by walk_at "frm"), (by walk_at "hp"), (by with_reducible assumption), L2.upd_same, PcsUpd ((PcsFrm (by walk_at "frm") ha0 so0 hps).app ⟨⟨_, rfl, (by walk_at "hp")⟩, trivial⟩) (by walk_at "hp"), gd.app (GoodP.one (by dsimp only; omega) (by dsimp only; omega) hwd), (by rw [List.length_append, ln]; rfl)⟩
    · subst es
      with_reducible refine Rd.ret (Rd.var (by walk_at "vr") ?_)
      exact k _ _ _ _ _ F0 ha0 so0 npH hl0 hps gd (by omega)
/-! _law_run -/
theorem sc_l_run : FnScope ["_law_pieces_here", "_law_run_here", "_law_piece"] ["_law_pieces_here"] (defScope s_l_run) := ⟨rfl, rfl, rfl, by decide +kernel, rfl, by decide +kernel, by decide +kernel⟩
theorem st_l_run {v0 : V} : L2.start ["_law_pieces_here", "_law_run_here", "_law_piece"] [v0] = [some v0, none, none] := rfl
abbrev sp_l_run (K : PySem.W.Frag) (A : Adr) : Sp := fun vs H Q _ => ∃ (l : Addr) (us : List V) (ps : List (Int × Str)), vs = [.ref l] ∧ H l = some (.lst us) ∧ Pcs H us ps ∧ GoodP ps ∧ ps.length ≤ 50 ∧ ∀ (r dr q : Addr) (zs : List V) (H' : Hp), Same H H' → H r = none → H' r = some (.ins A.c_Run dr (fU q)) → SqT K H' q zs → Pcs H' zs ps → Q (.ref r) H'
theorem ok_l_run (T : Txt w K mg A) : FnOk P w K mg base CX0 7 A.f_l_run A.d_l_run ["_law_pieces_here"] (sp_l_run K A) := by
  refine T.F_l_run.ok sc_l_run (fun vs H Q E h => ?_) (fun cdv Ar outer s H vs Q E hr h => ?_)
  · obtain ⟨l, us, ps, rfl, hl, hps, gd, l1, k⟩ := h
    rfl
  · obtain ⟨l, us, ps, rfl, hl, hps, gd, l1, k⟩ := h
    have hu := hu_of hr
    have t_q_WORDS := T.q_WORDS
    have t_i_Run := T.i_Run
    have t_kt_Run_Run := T.kt_Run_Run
    have t_kt_list_Run := T.kt_list_Run
    have t_nf_Run_Run := T.nf_Run_Run
    have t_nf_list_Run := T.nf_list_Run
    have t_k_Run := T.k_Run
    have l2 := hps.len
    refine ⟨_, (pss_cons (ps_set (i := 1) sc_l_run.nd rfl (Or.inl rfl) (StarP.pe_makeR0 T.K_Run (ok_Runu__initu_ T) (hr.mono (by decide)) (by rfl) T.m_Run Sta.passF))
      (pss_cons (ps_for PassesOwn.never rfl (pi_list (pv 0)) (pg_name (i := 2) sc_l_run.nd rfl (Or.inl rfl)) (pss_one (ps_aug (i := 1) sc_l_run.nd rfl (Or.inl rfl) (StX.pe_makeR T.K_Run (ok_Runu__initu_ T) (hr.mono (by decide)) (by rfl) T.m_Run Sta.passF (pa_cons (pv 2) pa_nil)) (Own.pip (Own.iopT (op := .Add) (ok_Runu__iaddu_ T) (hr.mono (by decide)) T.O_Runu__iaddu__I.1 T.O_Runu__iaddu__I.2 T.b_Runu__iaddu_ pass0)))))
      (pss_one (ps_ret (pv 1))))), ?_⟩
    try dsimp only [L2.cxOf, L2.Cx.nox, L2.Cx.wish]
    try rw [st_l_run]
    with_reducible refine Rd.seq (Rd.asg (Rd.mkR0 ?_))
    intro x1 dx1 nx1 ndx1 ne1
    refine ⟨[_], [], rfl, rfl, (Nat.le_of_lt (L2.small1000 (by simp))), fun pp1 npp1 => ?_⟩
    have np1 : pp1 ≠ x1 := ne_none' npp1 L2.upd_same
    refine ⟨_, _, _, _, [], rfl, (by walk_at "hp"), (.of L2.upd_same), trivial, GoodP.nil, (by simp), fun H1 F1 r1 => ⟨rfl, ?_⟩⟩
    have sq1 : SqT K H1 pp1 [] := .of (by walk_at "hp")
    have x1H : H x1 = none := nx1
    with_reducible refine Rd.name ?_
    try dsimp only [Int.reduceToNat, List.set]
    with_reducible refine Rd.seq (Rd.fr (Rd.il (Rd.var (by walk_at "vr") (⟨_, rfl, ?_⟩))))
    refine ⟨⟨_, (by walk_at "hpl")⟩, for_list (xs := us) (fun (i : Nat) (σ : L2.St) (H' : Hp) => ∃ (v1 : Option V) (q : Addr) (zs : List V), σ = [some (.ref l), some (.ref x1), v1] ∧ Same H H' ∧ H' x1 = some (.ins A.c_Run dx1 (fU q)) ∧ SqT K H' q zs ∧ Pcs H' zs (ps.take i)) ⟨_, _, _, rfl, (by walk_at "frm"), (by walk_at "hp"), sq1, trivial⟩ (fun j σ H0 hj ⟨v1, q, zs, es, S0, hr0, hq0, hz0⟩ => Same.seq S0 (.of hl)) (fun i x σ H0 hx ⟨v1, q, zs, es, S0, hr0, hq0, hz0⟩ => ?_) (fun σ H0 ⟨v1, q, zs, es, S0, hr0, hq0, hz0⟩ => ?_)⟩
    · subst es
      obtain ⟨p9, r9, hp9, rfl, hr9, g1, g2, g3⟩ := PcsG (hps.same S0) gd hx
      have g5 := gd.take i
      have g6 := GoodP.one g1 g2 g3
      have l5 := List.length_take_le' i ps
      have l6 : [p9].length = 1 := rfl
      with_reducible refine Rd.name (Rd.aug (by walk_at "vr") (Rd.mkR (Rd.cons (Rd.var (by walk_at "vr") (Rd.nil ?_)))))
      intro x2 dx2 nx2 ndx2 ne2
      refine ⟨[_], [.ref r9], rfl, rfl, (Nat.le_of_lt (L2.small1000 (by simp))), fun pp2 npp2 => ?_⟩
      have np2 : pp2 ≠ x2 := ne_none' npp2 L2.upd_same
      refine ⟨_, _, _, _, [p9], rfl, (by walk_at "hp"), (.of L2.upd_same), ⟨⟨_, rfl, (by walk_at "hp")⟩, trivial⟩, (GoodP.one g1 g2 g3), (by simp), fun H2 F2 r2 => ⟨rfl, ?_⟩⟩
      have pc2 : Pcs H2 [.ref r9] [p9] := ⟨⟨_, rfl, (by walk_at "hp")⟩, trivial⟩
      have sq2 : SqT K H2 pp2 [.ref r9] := .of (by walk_at "hp")
      with_reducible refine Own.iop2 (by walk_at "hp") ?_
      refine ⟨_, _, _, _, _, _, _, _, _, _, rfl, (by walk_at "hp"), (by walk_at "hpt"), (by walk_at "pcs"), (by assumption), (by omega), (by walk_at "hp"), (by walk_at "hpt"), (by walk_at "pcs"), (by assumption), (by omega), fun q3 zs3 H3 F3 hr3 hq3 hz3 => ?_⟩
      exact ⟨_, _, _, rfl, (by walk_at "frm"), (by assumption), (by assumption), (by rw [List.take_add_one, hp9]; assumption)⟩
    · subst es
      rw [l2, List.take_length] at hz0
      with_reducible refine Rd.ret (Rd.var (by walk_at "vr") ?_)
      exact k _ _ _ _ _ (by walk_at "frm") x1H hr0 hq0 hz0
/-! _law_is -/
theorem sc_l_is : FnScope ["_law_run_here", "_law_pieces_here", "_law_due", "_law_k", "_law_piece", "_law_times", "_law_word"] ["_law_run_here", "_law_pieces_here"] (defScope s_l_is) := ⟨rfl, rfl, rfl, by decide +kernel, rfl, by decide +kernel, by decide +kernel⟩
theorem st_l_is {v0 v1 : V} : L2.start ["_law_run_here", "_law_pieces_here", "_law_due", "_law_k", "_law_piece", "_law_times", "_law_word"] [v0, v1] = [some v0, some v1, none, none, none, none, none] := rfl
abbrev sp_l_is (K : PySem.W.Frag) (A : Adr) : Sp := fun vs H Q _ => ∃ (p dx q : Addr) (xs : List V) (ps : List (Int × Str)) (l : Addr) (us : List V), vs = [.ref p, .ref l] ∧ H p = some (.ins A.c_Run dx (fU q)) ∧ SqT K H q xs ∧ Pcs H xs ps ∧ GoodP ps ∧ ps.length ≤ 100 ∧ H l = some (.lst us) ∧ Pcs H us ps ∧ ∀ H', Same H H' → Q (.bl true) H'
theorem ok_l_is (T : Txt w K mg A) : FnOk P w K mg base CX0 5 A.f_l_is A.d_l_is ["_law_run_here", "_law_pieces_here"] (sp_l_is K A) := by
  refine T.F_l_is.ok sc_l_is (fun vs H Q E h => ?_) (fun cdv Ar outer s H vs Q E hr h => ?_)
  · obtain ⟨p, dx, q, xs, ps, l, us, rfl, hp, hq, hps, gd, l1, hl, hvs, k⟩ := h
    rfl
  · obtain ⟨p, dx, q, xs, ps, l, us, rfl, hp, hq, hps, gd, l1, hl, hvs, k⟩ := h
    have hu := hu_of hr
    have t_q_WORDS := T.q_WORDS
    have t_i_Run := T.i_Run
    have t_kt_Run_Run := T.kt_Run_Run
    have t_kt_list_Run := T.kt_list_Run
    have t_nf_Run_Run := T.nf_Run_Run
    have t_nf_list_Run := T.nf_list_Run
    have t_k_Run := T.k_Run
    have l2 := hps.len
    have l3 := hvs.len
    refine ⟨_, (pss_cons (ps_if (PW.pt (pw_or (pt_not (pt_val (pe_callB (Rd.isi (K := K) rfl) (by rfl) T.n_isinstance (by decide +kernel) (pa_cons (pv 0) (pa_cons (pe_glob (v := .ref A.c_Run) rfl T.m_Run rfl) pa_nil))))) (pw_or (pt_cmpR (op_neD hr.units) (pe_prop (pv 0) T.k_Run T.R_Run_pieces (ok_Run_pieces T) (hr.mono (by decide)) T.b_Run_pieces .nil pass0 rfl) (pv 1) (nomark _)) (pw_or1 (pt_cmpR op_ne (pe_callB (Own.len (ok_Runu__lenu_ T) (hr.mono (by decide)) T.O_Runu__lenu__1 T.b_Runu__lenu_ pass0) (by rfl) T.n_len PySem.boot_len (pa_cons (pv 0) pa_nil)) (pe_callB call_len_seq (by rfl) T.n_len PySem.boot_len (pa_cons (pv 1) pa_nil)) (nomark _)))))) (pss_one ps_never) pss_nil)
      (pss_cons (ps_if (pt_cmpR (op_neD hr.units) (pe_lc (own := [("_law_k", 3)]) (g := gName 3) rfl sc_l_is.nd (pi_range1 (by rfl) T.n_range (pa_cons (pe_callB call_len_seq (by rfl) T.n_len PySem.boot_len (pa_cons (pv 1) pa_nil)) pa_nil)) (blkOk_by (own := [("_law_k", 3)]) (N := ["_law_run_here", "_law_pieces_here", "_law_due", "_law_k", "_law_piece", "_law_times", "_law_word"]) (sc := defScope s_l_is) (by decide +kernel)) (fun _ _ _ _ _ => (pg_name (i := 3) sc_l_is.nd rfl (Or.inl rfl))) (fun _ _ _ _ _ => pts_nil) (fun _ _ _ _ _ => (Own.pe_item (ok_Runu__getitemu_ T) (hr.mono (by decide)) T.O_Runu__getitemu__1 T.fi_Runu__getitemu_ T.b_Runu__getitemu_ pass0 (pv 0) (pv 3)))) (pv 1) (nomark _)) (pss_one ps_never) pss_nil)
      (pss_cons (ps_if (pt_cmpR (op_neD hr.units) (pe_lc (own := [("_law_piece", 4)]) (g := gName 4) rfl sc_l_is.nd (pi_list (pe_prop (pv 0) T.k_Run T.R_Run_pieces (ok_Run_pieces T) (hr.mono (by decide)) T.b_Run_pieces .nil pass0 rfl)) (blkOk_by (own := [("_law_piece", 4)]) (N := ["_law_run_here", "_law_pieces_here", "_law_due", "_law_k", "_law_piece", "_law_times", "_law_word"]) (sc := defScope s_l_is) (by decide +kernel)) (fun _ _ _ _ _ => (pg_name (i := 4) sc_l_is.nd rfl (Or.inl rfl))) (fun _ _ _ _ _ => pts_one (pt_not (pt_val (pe_callB (Rd.isi (K := K) rfl) (by rfl) T.n_isinstance (by decide +kernel) (pa_cons (pv 4) (pa_cons (pe_bltn (v := .ty "tuple") (u := .type "tuple") (by rfl) T.n_tuple (by decide +kernel) rfl) pa_nil)))))) (fun _ _ _ _ _ => (pv 4))) (pe_lst pa_nil) (nomark _)) (pss_one ps_never) pss_nil)
      (pss_cons (ps_set (i := 2) sc_l_is.nd rfl (Or.inl rfl) (pe_op op_add (pe_callB (cr_sum (by rfl)) (by rfl) T.n_sum (by decide +kernel) (pa_cons (pe_lc (own := [("_law_times", 5), ("_law_word", 6)]) (g := gTup K 2 (gCons (gName 5) (gCons (gName 6) gNil))) rfl sc_l_is.nd (pi_list (pv 1)) (blkOk_by (own := [("_law_times", 5), ("_law_word", 6)]) (N := ["_law_run_here", "_law_pieces_here", "_law_due", "_law_k", "_law_piece", "_law_times", "_law_word"]) (sc := defScope s_l_is) (by decide +kernel)) (fun _ _ _ _ _ => pg_tup (by rfl) (pgs_cons (pg_name (i := 5) sc_l_is.nd rfl (Or.inl rfl)) (pgs_cons (pg_name (i := 6) sc_l_is.nd rfl (Or.inl rfl)) pgs_nil))) (fun _ _ _ _ _ => pts_nil) (fun _ _ _ _ _ => (pv 5))) pa_nil)) (pe_callB (cr_sum (by rfl)) (by rfl) T.n_sum (by decide +kernel) (pa_cons (pe_lc (own := [("_law_times", 5), ("_law_word", 6)]) (g := gTup K 2 (gCons (gName 5) (gCons (gName 6) gNil))) rfl sc_l_is.nd (pi_list (pv 1)) (blkOk_by (own := [("_law_times", 5), ("_law_word", 6)]) (N := ["_law_run_here", "_law_pieces_here", "_law_due", "_law_k", "_law_piece", "_law_times", "_law_word"]) (sc := defScope s_l_is) (by decide +kernel)) (fun _ _ _ _ _ => pg_tup (by rfl) (pgs_cons (pg_name (i := 5) sc_l_is.nd rfl (Or.inl rfl)) (pgs_cons (pg_name (i := 6) sc_l_is.nd rfl (Or.inl rfl)) pgs_nil))) (fun _ _ _ _ _ => pts_one (pt_cmpR op_eq (pv 6) pe_str (nomark _))) (fun _ _ _ _ _ => (pv 5))) pa_nil))))
      (pss_one (ps_ret (pe_and (pe_cmpR op_eq (pe_meth0 (pv 0) T.k_Run T.M_Run_all_deeds (ok_Run_all_deeds T) (hr.mono (by decide)) T.b_Run_all_deeds .nil pass0) (pv 2) (nomark _)) (pe_one (pe_not (pe_callB (Rd.isi (K := K) rfl) (by rfl) T.n_isinstance (by decide +kernel) (pa_cons (pe_meth0 (pv 0) T.k_Run T.M_Run_all_deeds (ok_Run_all_deeds T) (hr.mono (by decide)) T.b_Run_all_deeds .nil pass0) (pa_cons (pe_bltn (v := .ty "bool") (u := .type "bool") (by rfl) T.n_bool (by decide +kernel) rfl) pa_nil)))))))))))), ?_⟩
    try dsimp only [L2.cxOf, L2.Cx.nox, L2.Cx.wish]
    try rw [st_l_is]
    with_reducible refine Rd.seq (Rd.ifS (Rd.or (Rd.not (Rd.tb (Rd.cB (Rd.cons (Rd.var (by walk_at "vr") (Rd.cons (Rd.c (Rd.nil ?_))))))))))
    refine ⟨_, _, _, _, _, rfl, (by walk_at "clsv"), (by walk_at "tyx"), (by walk_at "kit"), ?_⟩
    with_reducible refine Rd.bl (Rd.iteF (by first | with_unfolding_all rfl | walk_at "bF") (Rd.or (Rd.test (Rd.op (Rd.prop (Rd.var (by walk_at "vr") (⟨_, _, _, rfl, (by walk_at "hp"), ?_⟩)))))))
    refine ⟨_, _, _, _, _, rfl, (by walk_at "hp"), (by walk_at "hpt"), (by walk_at "pcs"), (by assumption), (by omega), fun lP HPb SP nlP hlP => ?_⟩
    with_reducible refine Rd.var (by walk_at "vr") ?_
    refine ⟨_, _, (by walk_at "dp"), (by walk_at "dp"), (by walk_at "shp"), (by walk_at "shp"), ?_⟩
    with_reducible refine Rd.bl (Rd.iteF (by walk_at "bF") (Rd.test (Rd.op (Rd.cB (Rd.cons (Rd.var (by walk_at "vr") (Rd.nil ?_)))))))
    refine ⟨_, _, _, rfl, (by walk_at "hp"), ?_⟩
    refine ⟨_, _, _, _, _, rfl, (by walk_at "hp"), (by walk_at "hpt"), (by walk_at "pcs"), (by assumption), (by omega), ⟨_, rfl, (by omega), (by omega), ?_⟩⟩
    with_reducible refine Rd.cB (Rd.cons (Rd.var (by walk_at "vr") (Rd.nil (⟨_, _, rfl, (by walk_at "hpq"), (Rd.neS (by walk_at "vr") (Rd.bl (Rd.iteF (by walk_at "bF") (Rd.next (Rd.seq (Rd.ifS (Rd.test ?_)))))))⟩))))
    with_reducible refine Rd.op (Rd.lc (Rd.rng1 (Rd.cons (Rd.cB (Rd.cons (Rd.var (by walk_at "vr") (Rd.nil (⟨_, _, rfl, (by walk_at "hpq"), (Rd.nil (⟨_, rfl, (by walk_at "sc"), (by walk_at "sc"), ?_⟩))⟩))))))))
    intro D0 nD0
    refine' lc_range (lo := 0) (fun i H' => Same H H' ∧ H' D0 = some (.lst (xs.take i))) (⟨by walk_at "frm", L2.upd_same⟩) (fun i H' hi p => ?lct0_u7) (fun H' p => ?lcd0_u7)
    case lct0_u7 =>
      obtain ⟨S9, hD⟩ := p
      have al9 : (xs.take i).length ≤ 100 := Nat.le_trans (List.length_take_le' i xs) (by omega)
      with_reducible refine Rd.name ?_
      refine ⟨rfl, ?_⟩
      refine Rd.yes (Rd.iteT rfl ?_)
      with_reducible refine Rd.op (Rd.var (by walk_at "vr") (Rd.var (by walk_at "vr") ?_))
      refine ⟨_, _, _, rfl, (by walk_at "hp"), ?_⟩
      refine ⟨_, _, _, _, _, _, rfl, (by walk_at "hp"), (by walk_at "hpt"), (by walk_at "pcs"), (by assumption), (by omega), (by omega), (by omega), fun v9 hv9 => ?_⟩
      rw [show (0 + (i : Int)).toNat = i by omega] at hv9
      refine ⟨_, (by walk_at "hp"), (by walk_at "sz"), ?_⟩
      refine ⟨by walk_at "frm", ?_⟩
      rw [List.take_add_one, show xs[i]? = some v9 from hv9]
      exact L2.upd_same
    obtain ⟨S9, hD9⟩ := p
    rw [List.take_of_length_le (l := xs)] at hD9
    rotate_left
    · omega
    with_reducible refine Rd.var (by walk_at "vr") ?_
    refine ⟨_, _, (by walk_at "dp"), (by walk_at "dp"), (by walk_at "shp"), (by walk_at "shp"), ?_⟩
    with_reducible refine Rd.bl (Rd.iteF (by walk_at "bF") (Rd.next (Rd.seq (Rd.ifS (Rd.test (Rd.op (Rd.lc (Rd.il (Rd.prop (Rd.var (by walk_at "vr") (⟨_, _, _, rfl, (by walk_at "hp"), ?_⟩)))))))))))
    refine ⟨_, _, _, _, _, rfl, (by walk_at "hp"), (by walk_at "hpt"), (by walk_at "pcs"), (by assumption), (by omega), fun lP HPb SP nlP hlP => ?_⟩
    refine ⟨_, rfl, ⟨_, (by walk_at "hpl")⟩, ?_⟩
    intro D1 nD1
    refine' lc_list (fun i H' => Same HPb H' ∧ H' D1 = some (.lst [])) (⟨by walk_at "frm", L2.upd_same⟩) (fun i H' _ z => Same.seq z.1 (.of hlP)) (fun i x H' hx p => ?lct1_u8) (fun H' p => ?lcd1_u8)
    case lct1_u8 =>
      obtain ⟨S9, hD⟩ := p
      obtain ⟨p9, r9, hp9, rfl, hr9, g1, g2, g3⟩ := PcsG (hps.same (show Same H _ from (by walk_at "frm"))) gd hx
      with_reducible refine Rd.name ?_
      refine ⟨rfl, ?_⟩
      with_reducible refine Rd.not (Rd.tb (Rd.cB (Rd.cons (Rd.var (by walk_at "vr") (Rd.cons (Rd.c (Rd.nil ?_)))))))
      refine ⟨_, _, _, _, _, rfl, (by walk_at "clsv"), (by walk_at "tyx"), (by walk_at "kit"), ?_⟩
      with_reducible refine Rd.bl (Rd.iteF (by walk_at "bF") ?_)
      exact ⟨by walk_at "frm", by walk_at "hp"⟩
    obtain ⟨S92, hD92⟩ := p
    with_reducible refine Rd.lst (Rd.nil (Rd.laid (by walk_at "ll") ?_))
    intro p2 np2
    refine ⟨_, _, (by walk_at "dp"), (by walk_at "dp"), (by walk_at "shp"), (by walk_at "shp"), ?_⟩
    with_reducible refine Rd.bl (Rd.iteF (by walk_at "bF") (Rd.next (Rd.seq (Rd.asg (Rd.op (Rd.cB (Rd.cons (Rd.lc (Rd.il (Rd.var (by walk_at "vr") ?_))))))))))
    refine ⟨_, rfl, ⟨_, (by walk_at "hpl")⟩, ?_⟩
    intro D3 nD3
    refine' lc_list (fun i H' => Same H H' ∧ H' D3 = some (.lst (((ps.take i).map (·.1)).map V.int))) (⟨by walk_at "frm", L2.upd_same⟩) (fun i H' _ z => Same.seq z.1 (.of hl)) (fun i x H' hx p => ?lct3_u9) (fun H' p => ?lcd3_u9)
    case lct3_u9 =>
      obtain ⟨S9, hD⟩ := p
      obtain ⟨p9, r9, hp9, rfl, hr9, g1, g2, g3⟩ := PcsG (hvs.same S9) gd hx
      have al9 : (((ps.take i).map (·.1)).map V.int).length ≤ 100 := by rw [List.length_map, List.length_map]; exact Nat.le_trans (List.length_take_le' i ps) l1
      refine Rd.gtup (by walk_at "hpt") rfl ?_
      with_reducible refine Rd.gcons (Rd.name (Rd.gcons (Rd.name (Rd.gnil ?_))))
      refine ⟨rfl, ?_⟩
      refine Rd.yes (Rd.iteT rfl ?_)
      with_reducible refine Rd.var (by walk_at "vr") ?_
      refine ⟨_, (by walk_at "hp"), (by walk_at "sz"), ?_⟩
      refine ⟨by walk_at "frm", ?_⟩
      rw [List.take_add_one, hp9, List.map_append, List.map_append]
      exact L2.upd_same
    obtain ⟨S93, hD93⟩ := p
    rw [l3, List.take_length] at hD93
    with_reducible refine Rd.nil ?_
    refine ⟨_, _, rfl, (by walk_at "hpl"), ?_⟩
    with_reducible refine Rd.cB (Rd.cons (Rd.lc (Rd.il (Rd.var (by walk_at "vr") ?_))))
    refine ⟨_, rfl, ⟨_, (by walk_at "hpl")⟩, ?_⟩
    intro D4 nD4
    refine' lc_list (fun i H' => Same H H' ∧ H' D4 = some (.lst ((((ps.take i).filter isPr).map (·.1)).map V.int))) (⟨by walk_at "frm", L2.upd_same⟩) (fun i H' _ z => Same.seq z.1 (.of hl)) (fun i x H' hx p => ?lct4_u10) (fun H' p => ?lcd4_u10)
    case lct4_u10 =>
      obtain ⟨S9, hD⟩ := p
      obtain ⟨p9, r9, hp9, rfl, hr9, g1, g2, g3⟩ := PcsG (hvs.same S9) gd hx
      have al9 : ((((ps.take i).filter isPr).map (·.1)).map V.int).length ≤ 100 := by
        rw [List.length_map, List.length_map]
        exact Nat.le_trans (List.length_filter_le _ _) (Nat.le_trans (List.length_take_le' i ps) l1)
      refine Rd.gtup (by walk_at "hpt") rfl ?_
      with_reducible refine Rd.gcons (Rd.name (Rd.gcons (Rd.name (Rd.gnil ?_))))
      refine ⟨rfl, ?_⟩
      with_reducible refine Rd.test (Rd.op (Rd.var (by walk_at "vr") (Rd.c (Rd.eqS (by walk_at "vr") (Rd.bl ?_)))))
      refine Rd.ite (fun h6 => ?_) (fun h6 => ?_)
      · try simp only [decide_eq_true_eq, Bool.not_eq_true', decide_eq_false_iff_not, Bool.not_eq_true, Bool.not_eq_eq_eq_not, Bool.not_true, Bool.not_false] at h6
        with_reducible refine Rd.var (by walk_at "vr") ?_
        refine ⟨_, (by walk_at "hp"), (by walk_at "sz"), ?_⟩
        refine ⟨by walk_at "frm", ?_⟩
        rw [filt_pair hp9 (V.str.inj h6)]
        exact L2.upd_same
      · try simp only [decide_eq_true_eq, Bool.not_eq_true', decide_eq_false_iff_not, Bool.not_eq_true, Bool.not_eq_eq_eq_not, Bool.not_true, Bool.not_false, Int.not_lt, Int.not_le, Decidable.not_not] at h6
        exact ⟨S9, by rw [← filt_other hp9 (fun z => h6 (congrArg V.str z))]; exact hD⟩
    obtain ⟨S94, hD94⟩ := p
    rw [l3, List.take_length] at hD94
    with_reducible refine Rd.nil ?_
    refine ⟨_, _, rfl, (by walk_at "hpl"), ?_⟩
    with_reducible refine Rd.i0 (Rd.name ?_)
    try dsimp only [Int.reduceToNat, List.set]
    with_reducible refine Rd.ret (Rd.andV (Rd.op (Rd.meth (Rd.var (by walk_at "vr") (⟨_, _, _, rfl, (by walk_at "hp"), (by walk_at "lk"), (Rd.nil ?_)⟩)))))
    refine ⟨_, _, _, _, _, rfl, (by walk_at "hp"), (by walk_at "hpt"), (by walk_at "pcs"), (by assumption), (by omega), fun H5 S5 => ?_⟩
    with_reducible refine Rd.var (by walk_at "vr") (Rd.eqS (by walk_at "vr") (Rd.bl (Rd.iteT (by walk_at "bT") (Rd.notV (Rd.cB (Rd.cons (Rd.meth (Rd.var (by walk_at "vr") (⟨_, _, _, rfl, (by walk_at "hp"), (by walk_at "lk"), (Rd.nil ?_)⟩)))))))))
    refine ⟨_, _, _, _, _, rfl, (by walk_at "hp"), (by walk_at "hpt"), (by walk_at "pcs"), (by assumption), (by omega), fun H6 S6 => ?_⟩
    with_reducible refine Rd.cons (Rd.c (Rd.nil ?_))
    refine ⟨_, _, _, _, _, rfl, (by walk_at "clsv"), (by walk_at "tyx"), (by walk_at "kit"), ?_⟩
    with_reducible refine Rd.bl ?_
    exact k _ (by walk_at "frm")
/-! _law_changed -/
theorem sc_l_changed : FnScope ["_law_pieces_here", "_law_more", "_law_run_here", "_law_same", "_law_beside", "_law_told"] ["_law_pieces_here", "_law_more"] (defScope s_l_changed) := ⟨rfl, rfl, rfl, by decide +kernel, rfl, by decide +kernel, by decide +kernel⟩
theorem st_l_changed {v0 v1 : V} : L2.start ["_law_pieces_here", "_law_more", "_law_run_here", "_law_same", "_law_beside", "_law_told"] [v0, v1] = [some v0, some v1, none, none, none, none] := rfl
abbrev sp_l_changed (K : PySem.W.Frag) (A : Adr) : Sp := fun vs H Q _ => ∃ (l : Addr) (us : List V) (ps : List (Int × Str)) (l2 : Addr) (ws : List V) (qs : List (Int × Str)), vs = [.ref l, .ref l2] ∧ H l = some (.lst us) ∧ Pcs H us ps ∧ GoodP ps ∧ ps.length ≤ 10 ∧ H l2 = some (.lst ws) ∧ Pcs H ws qs ∧ GoodP qs ∧ qs.length ≤ 10 ∧ ∀ H', Same H H' → Q (.bl true) H'
theorem ok_l_changed (T : Txt w K mg A) : FnOk P w K mg base CX0 8 A.f_l_changed A.d_l_changed ["_law_pieces_here", "_law_more"] (sp_l_changed K A) := by
  refine T.F_l_changed.ok sc_l_changed (fun vs H Q E h => ?_) (fun cdv Ar outer s H vs Q E hr h => ?_)
  · obtain ⟨l, us, ps, l2, ws, qs, rfl, hl, hps, gd, n1, hl2, hqs, gd2, n2, k⟩ := h
    rfl
  · obtain ⟨l, us, ps, l2, ws, qs, rfl, hl, hps, gd, n1, hl2, hqs, gd2, n2, k⟩ := h
    have hu := hu_of hr
    have t_q_WORDS := T.q_WORDS
    have t_i_Run := T.i_Run
    have t_kt_Run_Run := T.kt_Run_Run
    have t_kt_list_Run := T.kt_list_Run
    have t_nf_Run_Run := T.nf_Run_Run
    have t_nf_list_Run := T.nf_list_Run
    have t_k_Run := T.k_Run
    have m1 := hps.len
    have m2 := hqs.len
    have pcU := hps.app hqs
    have ga := gd.app gd2
    have gb := ga.app ga
    have la : (ps ++ qs).length = ps.length + qs.length := List.length_append
    have lb : (ps ++ qs ++ (ps ++ qs)).length = 2 * (ps.length + qs.length) := by rw [List.length_append, la]; omega
    have lu : (us ++ ws).length = us.length + ws.length := List.length_append
    refine ⟨_, (pss_cons (ps_set (i := 2) sc_l_changed.nd rfl (Or.inl rfl) (pe_call (ok_l_run T) (hr.mono (by decide)) (by rfl) T.m_l_run T.F_l_run.kp T.b_l_run .nil pass0 (pa_cons (pv 0) pa_nil)))
      (pss_cons (ps_set (i := 3) sc_l_changed.nd rfl (Or.inl rfl) (pv 2))
      (pss_cons (ps_set (i := 4) sc_l_changed.nd rfl (Or.inl rfl) (pe_call (ok_l_run T) (hr.mono (by decide)) (by rfl) T.m_l_run T.F_l_run.kp T.b_l_run .nil pass0 (pa_cons (pv 0) pa_nil)))
      (pss_cons (ps_aug (i := 2) sc_l_changed.nd rfl (Or.inl rfl) (pe_call (ok_l_run T) (hr.mono (by decide)) (by rfl) T.m_l_run T.F_l_run.kp T.b_l_run .nil pass0 (pa_cons (pv 1) pa_nil)) (Own.pip (Own.iopT (op := .Add) (ok_Runu__iaddu_ T) (hr.mono (by decide)) T.O_Runu__iaddu__I.1 T.O_Runu__iaddu__I.2 T.b_Runu__iaddu_ pass0)))
      (pss_cons (ps_if (PW.pt (pw_or (pt_not (pt_val (pe_call (ok_l_is T) (hr.mono (by decide)) (by rfl) T.m_l_is T.F_l_is.kp T.b_l_is .nil pass0 (pa_cons (pv 3) (pa_cons (pe_op op_cat (pv 0) (pv 1)) pa_nil))))) (pw_or1 (pt_not (pt_val (pe_call (ok_l_is T) (hr.mono (by decide)) (by rfl) T.m_l_is T.F_l_is.kp T.b_l_is .nil pass0 (pa_cons (pv 2) (pa_cons (pe_op op_cat (pv 0) (pv 1)) pa_nil)))))))) (pss_one ps_never) pss_nil)
      (pss_cons (ps_if (pt_not (pt_val (pe_call (ok_l_is T) (hr.mono (by decide)) (by rfl) T.m_l_is T.F_l_is.kp T.b_l_is .nil pass0 (pa_cons (pv 4) (pa_cons (pv 0) pa_nil))))) (pss_one ps_never) pss_nil)
      (pss_cons (ps_aug (i := 2) sc_l_changed.nd rfl (Or.inl rfl) (pe_call (ok_l_run T) (hr.mono (by decide)) (by rfl) T.m_l_run T.F_l_run.kp T.b_l_run .nil pass0 (pa_cons (pe_op op_cat (pv 0) (pv 1)) pa_nil)) (Own.pip (Own.iopT (op := .Add) (ok_Runu__iaddu_ T) (hr.mono (by decide)) T.O_Runu__iaddu__I.1 T.O_Runu__iaddu__I.2 T.b_Runu__iaddu_ pass0)))
      (pss_cons (ps_set (i := 5) sc_l_changed.nd rfl (Or.inl rfl) (pe_prop (pv 3) T.k_Run T.R_Run_pieces (ok_Run_pieces T) (hr.mono (by decide)) T.b_Run_pieces .nil pass0 rfl))
      (pss_cons (ps_expr (pe_bm PySem.F.plainAttrs_list PySem.F.slot_list_append PySem.F.type_list_append mt_append (pv 5) (pa_cons pe_non pa_nil)))
      (pss_one (ps_ret (pe_and (pe_call (ok_l_is T) (hr.mono (by decide)) (by rfl) T.m_l_is T.F_l_is.kp T.b_l_is .nil pass0 (pa_cons (pv 3) (pa_cons (pe_op op_rep (pe_op op_cat (pv 0) (pv 1)) pe_int) pa_nil))) (pe_one (pe_call (ok_l_is T) (hr.mono (by decide)) (by rfl) T.m_l_is T.F_l_is.kp T.b_l_is .nil pass0 (pa_cons (pv 4) (pa_cons (pv 0) pa_nil)))))))))))))))), ?_⟩
    try dsimp only [L2.cxOf, L2.Cx.nox, L2.Cx.wish]
    try rw [st_l_changed]
    with_reducible refine Rd.seq (Rd.asg (Rd.call (Rd.cons (Rd.var (by walk_at "vr") (Rd.nil ?_)))))
    refine ⟨_, _, _, rfl, (by walk_at "hp"), (by walk_at "pcs"), (by assumption), (by omega), fun rA drA qA zsA HA SA nrA hrA hqA hzA => ?_⟩
    with_reducible refine Rd.name ?_
    try dsimp only [Int.reduceToNat, List.set]
    with_reducible refine Rd.seq (Rd.asg (Rd.var (by walk_at "vr") (Rd.name ?_)))
    try dsimp only [Int.reduceToNat, List.set]
    with_reducible refine Rd.seq (Rd.asg (Rd.call (Rd.cons (Rd.var (by walk_at "vr") (Rd.nil ?_)))))
    refine ⟨_, _, _, rfl, (by walk_at "hp"), (by walk_at "pcs"), (by assumption), (by omega), fun rB drB qB zsB HB SB nrB hrB hqB hzB => ?_⟩
    with_reducible refine Rd.name ?_
    try dsimp only [Int.reduceToNat, List.set]
    with_reducible refine Rd.seq (Rd.aug (by walk_at "vr") (Rd.call (Rd.cons (Rd.var (by walk_at "vr") (Rd.nil ?_)))))
    refine ⟨_, _, _, rfl, (by walk_at "hp"), (by walk_at "pcs"), (by assumption), (by omega), fun rM drM qM zsM HM SM nrM hrM hqM hzM => ?_⟩
    with_reducible refine Own.iop2 (by walk_at "hp") ?_
    refine ⟨_, _, _, _, _, _, _, _, _, _, rfl, (by walk_at "hp"), (by walk_at "hpt"), (by walk_at "pcs"), (by assumption), (by omega), (by walk_at "hp"), (by walk_at "hpt"), (by walk_at "pcs"), (by assumption), (by omega), fun qI zsI HI FI hrI hqI hzI => ?_⟩
    with_reducible refine Rd.seq ?_
    have nBA : rB ≠ rA := ne_none' nrB hrA
    refine Rd.comp (fun Hx => Same H Hx ∧ Hx rA = some (.ins A.c_Run drA (fU qI)) ∧ SqT K Hx qI zsI ∧ Pcs Hx zsI (ps ++ qs) ∧ Hx rB = some (.ins A.c_Run drB (fU qB)) ∧ SqT K Hx qB zsB ∧ Pcs Hx zsB ps) ⟨by walk_at "frm", (by assumption), (by assumption), (by assumption), (by walk_at "hp"), sqIns FI (show _ = some (L2.HO.ins A.c_Run drA _) from (by walk_at "hp")) (by walk_at "hpt"), PcsIns FI (show _ = some (L2.HO.ins A.c_Run drA _) from (by walk_at "hp")) (by walk_at "pcs")⟩ (fun Hc ⟨Sc, a1, a2, a3, b1, b2, b3⟩ => ?_)
    with_reducible refine Rd.ifS (Rd.or (Rd.not (Rd.tb (Rd.call (Rd.cons (Rd.var (by walk_at "vr") (Rd.cons (Rd.op (Rd.var (by walk_at "vr") (Rd.var (by walk_at "vr") (Rd.catL (by walk_at "hp") (by walk_at "hp") (by walk_at "ll") ?_)))))))))))
    intro c1 nc1
    with_reducible refine Rd.nil ?_
    refine ⟨_, _, _, _, _, _, _, rfl, (by walk_at "hp"), (by walk_at "hpt"), (by walk_at "pcs"), (by assumption), (by omega), (by walk_at "hp"), (by walk_at "pcs"), fun H5 S5 => ?_⟩
    with_reducible refine Rd.bl (Rd.iteF (by walk_at "bF") (Rd.not (Rd.tb (Rd.call (Rd.cons (Rd.var (by walk_at "vr") (Rd.cons (Rd.op (Rd.var (by walk_at "vr") (Rd.var (by walk_at "vr") (Rd.catL (by walk_at "hp") (by walk_at "hp") (by walk_at "ll") ?_)))))))))))
    intro c2 nc2
    with_reducible refine Rd.nil ?_
    refine ⟨_, _, _, _, _, _, _, rfl, (by walk_at "hp"), (by walk_at "hpt"), (by walk_at "pcs"), (by assumption), (by omega), (by walk_at "hp"), (by walk_at "pcs"), fun H6 S6 => ?_⟩
    with_reducible refine Rd.bl (Rd.iteF (by walk_at "bF") (Rd.next (Rd.seq (Rd.ifS (Rd.not (Rd.tb (Rd.call (Rd.cons (Rd.var (by walk_at "vr") (Rd.cons (Rd.var (by walk_at "vr") ?_)))))))))))
    with_reducible refine Rd.nil ?_
    refine ⟨_, _, _, _, _, _, _, rfl, (by walk_at "hp"), (by walk_at "hpt"), (by walk_at "pcs"), (by assumption), (by omega), (by walk_at "hp"), (by walk_at "pcs"), fun H7 S7 => ?_⟩
    with_reducible refine Rd.bl (Rd.iteF (by walk_at "bF") (Rd.next (Rd.seq (Rd.aug (by walk_at "vr") (Rd.call (Rd.cons (Rd.op (Rd.var (by walk_at "vr") (Rd.var (by walk_at "vr") (Rd.catL (by walk_at "hp") (by walk_at "hp") (by walk_at "ll") ?_))))))))))
    intro c3 nc3
    with_reducible refine Rd.nil ?_
    refine ⟨_, _, _, rfl, (by walk_at "hp"), (by walk_at "pcs"), (by assumption), (by omega), fun rN drN qN zsN HN SN nrN hrN hqN hzN => ?_⟩
    with_reducible refine Own.iop2 (by walk_at "hp") ?_
    refine ⟨_, _, _, _, _, _, _, _, _, _, rfl, (by walk_at "hp"), (by walk_at "hpt"), (by walk_at "pcs"), (by assumption), (by omega), (by walk_at "hp"), (by walk_at "hpt"), (by walk_at "pcs"), (by assumption), (by omega), fun qI zsI HI FI hrI hqI hzI => ?_⟩
    with_reducible refine Rd.seq ?_
    refine Rd.comp (fun Hx => Same H Hx ∧ Hx rA = some (.ins A.c_Run drA (fU qI)) ∧ SqT K Hx qI zsI ∧ Pcs Hx zsI (ps ++ qs ++ (ps ++ qs)) ∧ Hx rB = some (.ins A.c_Run drB (fU qB)) ∧ SqT K Hx qB zsB ∧ Pcs Hx zsB ps) ⟨by walk_at "frm", (by assumption), (by assumption), (by assumption), (by walk_at "hp"), sqIns FI (show _ = some (L2.HO.ins A.c_Run drA _) from (by walk_at "hp")) (by walk_at "hpt"), PcsIns FI (show _ = some (L2.HO.ins A.c_Run drA _) from (by walk_at "hp")) (by walk_at "pcs")⟩ (fun Hc ⟨Sc, a1, a2, a3, b1, b2, b3⟩ => ?_)
    have lz := a3.len
    with_reducible refine Rd.asg (Rd.prop (Rd.var (by walk_at "vr") (⟨_, _, _, rfl, (by walk_at "hp"), ?_⟩)))
    refine ⟨_, _, _, _, _, rfl, (by walk_at "hp"), (by walk_at "hpt"), (by walk_at "pcs"), (by assumption), (by omega), fun l10 H10 S10 nl10 hl10 => ?_⟩
    with_reducible refine Rd.name ?_
    try dsimp only [Int.reduceToNat, List.set]
    with_reducible refine Rd.seq (Rd.drop ?_)
    try unfold tBM
    with_reducible refine Rd.var (by walk_at "vr") ?_
    refine ⟨Or.inl ⟨rfl, _, (by walk_at "hpl")⟩, ?_⟩
    with_reducible refine Rd.cons (Rd.c (Rd.nil ?_))
    refine ⟨_, _, _, rfl, rfl, (by walk_at "hp"), (by walk_at "sz"), ?_⟩
    with_reducible refine Rd.ret (Rd.andV (Rd.call (Rd.cons (Rd.var (by walk_at "vr") (Rd.cons (Rd.op (Rd.op (Rd.var (by walk_at "vr") (Rd.var (by walk_at "vr") (Rd.catL (by walk_at "hp") (by walk_at "hp") (by walk_at "ll") ?_))))))))))
    intro c4 nc4
    with_reducible refine Rd.c ?_
    refine ⟨_, _, _, rfl, rfl, (by walk_at "hp"), (by walk_at "sc"), (by walk_at "sc"), (by walk_at "rep"), fun c5 nc5 => ?_⟩
    rw [rep2]
    have pcW := (pcU.app pcU)
    with_reducible refine Rd.nil ?_
    refine ⟨_, _, _, _, _, _, _, rfl, (by walk_at "hp"), (by walk_at "hpt"), (by walk_at "pcs"), (by assumption), (by omega), (by walk_at "hp"), (by walk_at "pcs"), fun H11 S11 => ?_⟩
    with_reducible refine Rd.bl (Rd.iteT (by walk_at "bT") (Rd.call (Rd.cons (Rd.var (by walk_at "vr") (Rd.cons (Rd.var (by walk_at "vr") (Rd.nil ?_)))))))
    refine ⟨_, _, _, _, _, _, _, rfl, (by walk_at "hp"), (by walk_at "hpt"), (by walk_at "pcs"), (by assumption), (by omega), (by walk_at "hp"), (by walk_at "pcs"), fun H12 S12 => ?_⟩
    exact k _ (by walk_at "frm")
/-! law -/
theorem sc_law : FnScope ["_law_script", "_law_turn", "_law_source_here", "_law_one", "_law_two", "_law_many", "_law_first", "_law_second"] ["_law_script"] (defScope s_law) := ⟨rfl, rfl, rfl, by decide +kernel, rfl, by decide +kernel, by decide +kernel⟩
theorem st_law {v0 : V} : L2.start ["_law_script", "_law_turn", "_law_source_here", "_law_one", "_law_two", "_law_many", "_law_first", "_law_second"] [v0] = [some v0, none, none, none, none, none, none, none] := rfl
abbrev sp_law (K : PySem.W.Frag) : Sp := fun vs H Q _ => ∃ (a : Addr) (ns : List Int), vs = [.ref a] ∧ SqL K H a (ns.map V.int) ∧ ns.length ≤ 63 ∧ ∀ H', Q (.bl true) H'
theorem ok_law (T : Txt w K mg A) : FnOk P w K mg base CX0 9 A.f_law A.d_law ["_law_script"] (sp_law K) := by
  refine T.F_law.ok sc_law (fun vs H Q E h => ?_) (fun cdv Ar outer s H vs Q E hr h => ?_)
  · obtain ⟨a, ns, rfl, hS, hlen, k⟩ := h
    rfl
  · obtain ⟨a, ns, rfl, hS, hlen, k⟩ := h
    have hu := hu_of hr
    have t_q_WORDS := T.q_WORDS
    have t_i_Run := T.i_Run
    have t_kt_Run_Run := T.kt_Run_Run
    have t_kt_list_Run := T.kt_list_Run
    have t_nf_Run_Run := T.nf_Run_Run
    have t_nf_list_Run := T.nf_list_Run
    have t_k_Run := T.k_Run
    refine ⟨_, (pss_cons (ps_for PassesOwn.never rfl (pi_range1 (by rfl) T.n_range (pa_cons (pe_callB (call_max2 rfl) (by rfl) T.n_max (by decide +kernel) (pa_cons pe_int (pa_cons (pe_callB (call_min2 rfl) (by rfl) T.n_min (by decide +kernel) (pa_cons (pe_callB call_len_seq (by rfl) T.n_len PySem.boot_len (pa_cons (pv 0) pa_nil)) (pa_cons pe_int pa_nil))) pa_nil))) pa_nil)) (pg_name (i := 1) sc_law.nd rfl (Or.inl rfl)) (pss_cons (ps_set (i := 2) sc_law.nd rfl (Or.inl rfl) (pe_call (ok_l_source T) (hr.mono (by decide)) (by rfl) T.m_l_source T.F_l_source.kp T.b_l_source .nil pass0 (pa_cons (pv 0) (pa_cons (pv 1) pa_nil))))
      (pss_cons (ps_set (i := 3) sc_law.nd rfl (Or.inl rfl) (pe_call (ok_l_pieces T) (hr.mono (by decide)) (by rfl) T.m_l_pieces T.F_l_pieces.kp T.b_l_pieces .nil pass0 (pa_cons (pv 2) (pa_cons (pe_call (ok_l_draw T) (hr.mono (by decide)) (by rfl) T.m_l_draw T.F_l_draw.kp T.b_l_draw .nil pass0 (pa_cons (pv 2) (pa_cons pe_int pa_nil))) pa_nil))))
      (pss_cons (ps_set (i := 4) sc_law.nd rfl (Or.inl rfl) (pe_call (ok_l_pieces T) (hr.mono (by decide)) (by rfl) T.m_l_pieces T.F_l_pieces.kp T.b_l_pieces .nil pass0 (pa_cons (pv 2) (pa_cons (pe_call (ok_l_draw T) (hr.mono (by decide)) (by rfl) T.m_l_draw T.F_l_draw.kp T.b_l_draw .nil pass0 (pa_cons (pv 2) (pa_cons pe_int pa_nil))) pa_nil))))
      (pss_cons (ps_if (pt_cmpR op_eq (pe_call (ok_l_draw T) (hr.mono (by decide)) (by rfl) T.m_l_draw T.F_l_draw.kp T.b_l_draw .nil pass0 (pa_cons (pv 2) (pa_cons pe_int pa_nil))) pe_int (nomark _)) (pss_one (ps_set (i := 4) sc_law.nd rfl (Or.inl rfl) (pe_callTy call_list_of (by rfl) T.n_list (by decide +kernel) (pa_cons (pv 3) pa_nil)))) pss_nil)
      (pss_cons (ps_set (i := 5) sc_law.nd rfl (Or.inl rfl) (pe_call (ok_l_draw T) (hr.mono (by decide)) (by rfl) T.m_l_draw T.F_l_draw.kp T.b_l_draw .nil pass0 (pa_cons (pv 2) (pa_cons pe_int pa_nil))))
      (pss_cons (ps_par (by rfl) sc_law.nd (i := 6) (j := 7) rfl rfl (by decide) rfl rfl (pa_cons (pe_call (ok_l_run T) (hr.mono (by decide)) (by rfl) T.m_l_run T.F_l_run.kp T.b_l_run .nil pass0 (pa_cons (pv 3) pa_nil)) (pa_cons (pe_call (ok_l_run T) (hr.mono (by decide)) (by rfl) T.m_l_run T.F_l_run.kp T.b_l_run .nil pass0 (pa_cons (pv 4) pa_nil)) pa_nil)) (by rfl))
      (pss_cons (ps_if (PW.pt (pw_or (pt_not (pt_val (pe_call (ok_l_is T) (hr.mono (by decide)) (by rfl) T.m_l_is T.F_l_is.kp T.b_l_is .nil pass0 (pa_cons (pv 6) (pa_cons (pv 3) pa_nil))))) (pw_or1 (pt_not (pt_val (pe_call (ok_l_is T) (hr.mono (by decide)) (by rfl) T.m_l_is T.F_l_is.kp T.b_l_is .nil pass0 (pa_cons (pe_op (Own.opS (op := .Add) (ok_Runu__addu_ T) (hr.mono (by decide)) T.O_Runu__addu__S T.b_Runu__addu_ pass0) (pv 6) (pv 7)) (pa_cons (pe_op op_cat (pv 3) (pv 4)) pa_nil)))))))) (pss_one ps_never) pss_nil)
      (pss_cons (ps_if (pt_not (pt_val (pe_call (ok_l_is T) (hr.mono (by decide)) (by rfl) T.m_l_is T.F_l_is.kp T.b_l_is .nil pass0 (pa_cons (pe_op (Own.opT (op := .Mult) (ok_Runu__mulu_ T) (hr.mono (by decide)) T.O_Runu__mulu__T T.b_Runu__mulu_ pass0) (pv 6) (pv 5)) (pa_cons (pe_op op_rep (pv 3) (pv 5)) pa_nil))))) (pss_one ps_never) pss_nil)
      (pss_cons (ps_if (PW.pt (pw_or (pt_not (pt_val (pe_call (ok_l_is T) (hr.mono (by decide)) (by rfl) T.m_l_is T.F_l_is.kp T.b_l_is .nil pass0 (pa_cons (pe_op (Own.opRmul (ok_Runu__rmulu_ T) (hr.mono (by decide)) T.O_Runu__rmulu__R T.b_Runu__rmulu_ pass0) (pv 5) (pv 6)) (pa_cons (pe_op op_rep (pv 3) (pv 5)) pa_nil))))) (pw_or1 (pt_not (pt_val (pe_call (ok_l_is T) (hr.mono (by decide)) (by rfl) T.m_l_is T.F_l_is.kp T.b_l_is .nil pass0 (pa_cons (pv 6) (pa_cons (pv 3) pa_nil)))))))) (pss_one ps_never) pss_nil)
      (pss_cons (ps_if (pt_not (pt_val (pe_call (ok_l_is T) (hr.mono (by decide)) (by rfl) T.m_l_is T.F_l_is.kp T.b_l_is .nil pass0 (pa_cons (pv 7) (pa_cons (pv 4) pa_nil))))) (pss_one ps_never) pss_nil)
      (pss_cons (ps_if (pt_cmpR op_ne (pe_cmpR (Own.cmp (cop := .Eq) (ok_Runu__equ_ T) (hr.mono (by decide)) T.O_Runu__equ__1 T.b_Runu__equ_ pass0) (pv 6) (pv 7) (nomark _)) (pe_cmpR (op_eqD hr.units) (pv 3) (pv 4) (nomark _)) (nomark _)) (pss_one ps_never) pss_nil)
      (pss_cons (ps_if (PW.pt (pw_or (pt_cmpR op_ne (pe_cmpR (Own.ne (ok_Runu__equ_ T) (hr.mono (by decide)) T.O_Runu__equ__N T.b_Runu__equ_ pass0) (pv 6) (pv 7) (nomark _)) (pe_cmpR (op_neD hr.units) (pv 3) (pv 4) (nomark _)) (nomark _)) (pw_or1 (pt_cmpR (Own.cmp (cop := .Eq) (ok_Runu__equ_ T) (hr.mono (by decide)) T.O_Runu__equ__1 T.b_Runu__equ_ pass0) (pv 6) (pv 3) (nomark _))))) (pss_one ps_never) pss_nil)
      (pss_cons (ps_if (PW.pt (pw_and (pt_cmpR op_eq (pe_callB call_len_seq (by rfl) T.n_len PySem.boot_len (pa_cons (pv 3) pa_nil)) pe_int (nomark _)) (pw_and1 (pt_cmpR (Own.ne (ok_Runu__equ_ T) (hr.mono (by decide)) T.O_Runu__equ__N T.b_Runu__equ_ pass0) (StX.pe_makeR T.K_Run (ok_Runu__initu_ T) (hr.mono (by decide)) (by rfl) T.m_Run Sta.passF (pa_cons (pe_ix (Rd.ixLK rfl) (pv 3) pe_int (fun _ _ => rfl)) (pa_cons (pe_ix (Rd.ixLK rfl) (pv 3) pe_int (fun _ _ => rfl)) pa_nil))) (pv 6) (nomark _))))) (pss_one ps_never) pss_nil)
      (pss_one (ps_if (pt_not (pt_val (pe_call (ok_l_changed T) (hr.mono (by decide)) (by rfl) T.m_l_changed T.F_l_changed.kp T.b_l_changed .nil pass0 (pa_cons (pv 3) (pa_cons (pv 4) pa_nil))))) (pss_one ps_never) pss_nil))))))))))))))))
      (pss_one (ps_ret (pe_and (pe_cmpR (Own.cmp (cop := .Eq) (ok_Runu__equ_ T) (hr.mono (by decide)) T.O_Runu__equ__1 T.b_Runu__equ_ pass0) (StarP.pe_makeR0 T.K_Run (ok_Runu__initu_ T) (hr.mono (by decide)) (by rfl) T.m_Run Sta.passF) (pe_call (ok_l_run T) (hr.mono (by decide)) (by rfl) T.m_l_run T.F_l_run.kp T.b_l_run .nil pass0 (pa_cons (pe_lst pa_nil) pa_nil)) (nomark _)) (pe_one (pe_cmpR op_eq (pe_meth0 (StarP.pe_makeR0 T.K_Run (ok_Runu__initu_ T) (hr.mono (by decide)) (by rfl) T.m_Run Sta.passF) T.k_Run T.M_Run_all_deeds (ok_Run_all_deeds T) (hr.mono (by decide)) T.b_Run_all_deeds .nil pass0) pe_int (nomark _))))))), ?_⟩
    try dsimp only [L2.cxOf, L2.Cx.nox, L2.Cx.wish]
    try rw [st_law]
    with_reducible refine Rd.seq (Rd.fr (Rd.rng1 (Rd.cons (Rd.cB (Rd.cons (Rd.c (Rd.cons (Rd.cB (Rd.cons (Rd.cB (Rd.cons ?_)))))))))))
    with_reducible refine Rd.var (by walk_at "vr") (Rd.nil (⟨_, _, rfl, (by walk_at "hpq"), (Rd.cons (Rd.c (Rd.nil (⟨_, _, rfl, (Rd.nil (⟨_, _, rfl, (Rd.nil (⟨_, rfl, (by walk_at "sc"), (by walk_at "sc"), ?_⟩))⟩))⟩))))⟩))
    refine for_range (lo := 0) (fun (_ : Nat) (σ : L2.St) (H' : Hp) => ∃ (v_turn v_source_here v_one v_two v_many v_first v_second : Option V), σ = [some (.ref a), v_turn, v_source_here, v_one, v_two, v_many, v_first, v_second] ∧ Same H H') ⟨_, _, _, _, _, _, _, rfl, Same.refl _⟩ (fun i σ H0 hi ⟨v_turn, v_source_here, v_one, v_two, v_many, v_first, v_second, es, S0⟩ => ?_) (fun σ H0 ⟨v_turn, v_source_here, v_one, v_two, v_many, v_first, v_second, es, S0⟩ => ?_)
    · subst es
      have hS0 := Same.seq S0 hS
      with_reducible refine Rd.name (Rd.seq (Rd.asg (Rd.call (Rd.cons (Rd.var (by walk_at "vr") (Rd.cons (Rd.var (by walk_at "vr") (Rd.nil ?_))))))))
      refine ⟨_, _, _, rfl, (by walk_at "hpl"), (by walk_at "sc"), (by walk_at "sc"), fun src1 o1 src1n s1 => ?_⟩
      with_reducible refine Rd.name ?_
      try dsimp only [Int.reduceToNat, List.set]
      with_reducible refine Rd.seq (Rd.asg (Rd.call (Rd.cons (Rd.var (by walk_at "vr") (Rd.cons (Rd.call (Rd.cons (Rd.var (by walk_at "vr") (Rd.cons (Rd.c (Rd.nil ?_)))))))))))
      refine ⟨_, _, _, rfl, (by walk_at "hp"), (by walk_at "sc"), (by walk_at "sc"), (by walk_at "sc"), fun d2 o2 d2a d2b s2 => ?_⟩
      with_reducible refine Rd.nil ?_
      refine ⟨_, _, _, rfl, (by walk_at "hp"), (by walk_at "sc"), (by omega), (by omega), fun lO uO pO oO HhO FO rO soO nlO hO cO gO eO => ?_⟩
      have nOs : lO ≠ src1 := ne_none' nlO (by walk_at "hp")
      with_reducible refine Rd.name ?_
      try dsimp only [Int.reduceToNat, List.set]
      with_reducible refine Rd.seq (Rd.asg (Rd.call (Rd.cons (Rd.var (by walk_at "vr") (Rd.cons (Rd.call (Rd.cons (Rd.var (by walk_at "vr") (Rd.cons (Rd.c (Rd.nil ?_)))))))))))
      refine ⟨_, _, _, rfl, (by walk_at "hp"), (by walk_at "sc"), (by walk_at "sc"), (by walk_at "sc"), fun d4 o4 d4a d4b s4 => ?_⟩
      with_reducible refine Rd.nil ?_
      refine ⟨_, _, _, rfl, (by walk_at "hp"), (by walk_at "sc"), (by omega), (by omega), fun lT uT pT oT HhT FT rT soT nlT hT cT gT eT => ?_⟩
      have nTs : lT ≠ src1 := ne_none' nlT (by walk_at "hp")
      have nTO : lT ≠ lO := ne_none' nlT (by walk_at "hp")
      with_reducible refine Rd.name ?_
      try dsimp only [Int.reduceToNat, List.set]
      with_reducible refine Rd.seq ?_
      refine Rd.ifJ (fun σ' H' => ∃ (v_turn v_many v_first v_second : Option V) (lt : Addr) (ut : List V) (pt : List (Int × Str)) (oo : HO), σ' = [some (.ref a), v_turn, some (.ref src1), some (.ref lO), some (.ref lt), v_many, v_first, v_second] ∧ Same H H' ∧ H' src1 = some oo ∧ SrcO oo ∧ lO ≠ src1 ∧ H' lO = some (.lst uO) ∧ Pcs H' uO pO ∧ lt ≠ src1 ∧ H' lt = some (.lst ut) ∧ Pcs H' ut pt ∧ GoodP pt ∧ pt.length ≤ 5) ?_ ?_
      · intro key
        with_reducible refine Rd.ifS (Rd.test (Rd.op (Rd.call (Rd.cons (Rd.var (by walk_at "vr") (Rd.cons (Rd.c (Rd.nil ?_))))))))
        refine ⟨_, _, _, rfl, (by walk_at "hp"), (by walk_at "sc"), (by first | omega | decide), (by first | omega | decide), fun dK oK dKa dKb soK => ?_⟩
        with_reducible refine Rd.c (Rd.eqS (by walk_at "vr") (Rd.bl ?_))
        refine Rd.ite (fun h0 => ?_) (fun h0 => ?_)
        · try simp only [decide_eq_true_eq, Bool.not_eq_true', decide_eq_false_iff_not, Bool.not_eq_true, Bool.not_eq_eq_eq_not, Bool.not_true, Bool.not_false] at h0
          with_reducible refine Rd.asg (Rd.cB (Rd.cons (Rd.var (by walk_at "vr") (Rd.nil ?_))))
          refine ⟨_, _, rfl, .inl (by walk_at "hpl"), fun c1 nc1 => ?_⟩
          with_reducible refine Rd.name ?_
          try dsimp only [Int.reduceToNat, List.set]
          first
          | exact key _ _ ⟨_, _, _, _, _, uO, pO, _, rfl, (by walk_at "frm"), (by walk_at "hp"), (by with_reducible assumption), nOs, (by walk_at "hp"), (PcsFrm (show Frm src1 HhO _ from (by walk_at "frm")) rO soO cO), (by walk_at "ne"), (by walk_at "hp"), (PcsFrm (show Frm src1 HhO _ from (by walk_at "frm")) rO soO cO), gO, (by omega)⟩
          | exact key _ _ ⟨_, _, _, _, lT, uT, pT, _, rfl, (by walk_at "frm"), (by walk_at "hp"), (by with_reducible assumption), nOs, (by walk_at "hp"), (PcsFrm (show Frm src1 HhO _ from (by walk_at "frm")) rO soO cO), nTs, (by walk_at "hp"), (PcsFrm (show Frm src1 HhT _ from (by walk_at "frm")) rT soT cT), gT, (by omega)⟩
        · try simp only [decide_eq_true_eq, Bool.not_eq_true', decide_eq_false_iff_not, Bool.not_eq_true, Bool.not_eq_eq_eq_not, Bool.not_true, Bool.not_false, Int.not_lt, Int.not_le, Decidable.not_not] at h0
          with_reducible refine Rd.next ?_
          first
          | exact key _ _ ⟨_, _, _, _, _, uO, pO, _, rfl, (by walk_at "frm"), (by walk_at "hp"), (by with_reducible assumption), nOs, (by walk_at "hp"), (PcsFrm (show Frm src1 HhO _ from (by walk_at "frm")) rO soO cO), (by walk_at "ne"), (by walk_at "hp"), (PcsFrm (show Frm src1 HhO _ from (by walk_at "frm")) rO soO cO), gO, (by omega)⟩
          | exact key _ _ ⟨_, _, _, _, lT, uT, pT, _, rfl, (by walk_at "frm"), (by walk_at "hp"), (by with_reducible assumption), nOs, (by walk_at "hp"), (PcsFrm (show Frm src1 HhO _ from (by walk_at "frm")) rO soO cO), nTs, (by walk_at "hp"), (PcsFrm (show Frm src1 HhT _ from (by walk_at "frm")) rT soT cT), gT, (by omega)⟩
      · rintro σ' Hj ⟨v_turn, v_many, v_first, v_second, lt, ut, pt, oo, rfl, Sj, h1, h2, n1, i1, i2, n2, j1, j2, gt, lt5⟩
        with_reducible refine Rd.seq (Rd.asg (Rd.call (Rd.cons (Rd.var (by walk_at "vr") (Rd.cons (Rd.c (Rd.nil ?_)))))))
        refine ⟨_, _, _, rfl, (by walk_at "hp"), (by walk_at "sc"), (by first | omega | decide), (by first | omega | decide), fun dM oM dMa dMb soM => ?_⟩
        with_reducible refine Rd.name ?_
        try dsimp only [Int.reduceToNat, List.set]
        refine Rd.comp (fun Hx => Same H Hx ∧ Hx lO = some (.lst uO) ∧ Pcs Hx uO pO ∧ Hx lt = some (.lst ut) ∧ Pcs Hx ut pt) ⟨by walk_at "frm", (by walk_at "hp"), (PcsFrm (show Frm src1 Hj _ from (by walk_at "frm")) h1 h2 i2), (by walk_at "hp"), (PcsFrm (show Frm src1 Hj _ from (by walk_at "frm")) h1 h2 j2)⟩ (fun Ha ⟨Sa, i1, i2, j1, j2⟩ => ?_)
        with_reducible refine Rd.seq (Rd.par (Rd.cons (Rd.call (Rd.cons (Rd.var (by walk_at "vr") (Rd.nil ?_))))))
        refine ⟨_, _, _, rfl, (by walk_at "hp"), (by walk_at "pcs"), (by assumption), (by omega), fun rF drF qF zsF HF SF nrF hrF hqF hzF => ?_⟩
        with_reducible refine Rd.cons (Rd.call (Rd.cons (Rd.var (by walk_at "vr") (Rd.nil ?_))))
        refine ⟨_, _, _, rfl, (by walk_at "hp"), (by walk_at "pcs"), (by assumption), (by omega), fun rS drS qS zsS HS SS nrS hrS hqS hzS => ?_⟩
        with_reducible refine Rd.nil (⟨_, _, rfl, ?_⟩)
        refine Rd.comp (fun Hx => Same H Hx ∧ Hx lO = some (.lst uO) ∧ Pcs Hx uO pO ∧ Hx lt = some (.lst ut) ∧ Pcs Hx ut pt ∧ Hx rS = some (.ins A.c_Run drS (fU qS)) ∧ SqT K Hx qS zsS ∧ Pcs Hx zsS pt ∧ Hx rF = some (.ins A.c_Run drF (fU qF)) ∧ SqT K Hx qF zsF ∧ Pcs Hx zsF pO) ⟨by walk_at "frm", (by walk_at "hp"), (by walk_at "pcs"), (by walk_at "hp"), (by walk_at "pcs"), (by assumption), (by assumption), (by assumption), (by walk_at "hp"), (by walk_at "hpt"), (by walk_at "pcs")⟩ (fun Hb ⟨Sb, a1, a2, b1, b2, c1, c2, c3, d1, d2, d3⟩ => ?_)
        have m1 := a2.len
        have m2 := b2.len
        have pcU := a2.app b2
        have ga := gO.app gt
        have la : (pO ++ pt).length = pO.length + pt.length := List.length_append
        have lu : (uO ++ ut).length = uO.length + ut.length := List.length_append
        obtain ⟨lm1, lm2⟩ := lm5 dMa dMb (show uO.length ≤ 5 by omega)
        have lm3 : dM.toNat * pO.length ≤ 100 := by rw [← m1]; exact lm1
        have pcR := a2.rep dM.toNat
        have gR := gO.rep dM.toNat
        have lR : (List.replicate dM.toNat pO).flatten.length ≤ 100 := by rw [len_rep]; exact lm3
        with_reducible refine Rd.seq (Rd.ifS (Rd.or (Rd.not (Rd.tb (Rd.call (Rd.cons (Rd.var (by walk_at "vr") (Rd.cons (Rd.var (by walk_at "vr") (Rd.nil ?_))))))))))
        refine ⟨_, _, _, _, _, _, _, rfl, (by walk_at "hp"), (by walk_at "hpt"), (by walk_at "pcs"), (by assumption), (by omega), (by walk_at "hp"), (by walk_at "pcs"), fun H10 S10 => ?_⟩
        with_reducible refine Rd.bl (Rd.iteF (by walk_at "bF") (Rd.not (Rd.tb (Rd.call (Rd.cons (Rd.op (Rd.var (by walk_at "vr") (Rd.var (by walk_at "vr") (Own.opS2 (by walk_at "hp") (by walk_at "hp") ?_)))))))))
        refine ⟨_, _, _, _, _, _, _, _, _, _, rfl, (by walk_at "hp"), (by walk_at "hpt"), (by walk_at "pcs"), (by assumption), (by omega), (by walk_at "hp"), (by walk_at "hpt"), (by walk_at "pcs"), (by assumption), (by omega), fun r11 dr11 q11 zs11 H11 S11 nr11 hr11 hq11 hz11 => ?_⟩
        with_reducible refine Rd.cons (Rd.op (Rd.var (by walk_at "vr") (Rd.var (by walk_at "vr") (Rd.catL (by walk_at "hp") (by walk_at "hp") (by walk_at "ll") ?_))))
        intro c2 nc2
        with_reducible refine Rd.nil ?_
        refine ⟨_, _, _, _, _, _, _, rfl, (by walk_at "hp"), (by walk_at "hpt"), (by walk_at "pcs"), (by assumption), (by omega), (by walk_at "hp"), (by walk_at "pcs"), fun H12 S12 => ?_⟩
        with_reducible refine Rd.bl (Rd.iteF (by walk_at "bF") (Rd.next (Rd.seq (Rd.ifS (Rd.not (Rd.tb (Rd.call (Rd.cons (Rd.op (Rd.var (by walk_at "vr") (Rd.var (by walk_at "vr") ?_)))))))))))
        with_reducible refine Own.opT2 (by walk_at "hp") (by walk_at "ty0") ?_
        refine ⟨_, _, _, _, _, _, rfl, (by walk_at "hp"), (by walk_at "hpt"), (by walk_at "pcs"), (by assumption), (by omega), (by omega), (by omega), lm3, fun r13 dr13 q13 zs13 H13 S13 nr13 hr13 hq13 hz13 => ?_⟩
        with_reducible refine Rd.cons (Rd.op (Rd.var (by walk_at "vr") (Rd.var (by walk_at "vr") ?_)))
        refine ⟨_, _, _, rfl, rfl, (by walk_at "hp"), (by walk_at "sc"), (by walk_at "sc"), (by walk_at "rep"), fun c3 nc3 => ?_⟩
        with_reducible refine Rd.nil ?_
        refine ⟨_, _, _, _, _, _, _, rfl, (by walk_at "hp"), (by walk_at "hpt"), (by walk_at "pcs"), (by assumption), (by omega), (by walk_at "hp"), (by walk_at "pcs"), fun H14 S14 => ?_⟩
        with_reducible refine Rd.bl (Rd.iteF (by walk_at "bF") (Rd.next (Rd.seq (Rd.ifS (Rd.or (Rd.not (Rd.tb (Rd.call (Rd.cons (Rd.op (Rd.var (by walk_at "vr") ?_)))))))))))
        with_reducible refine Rd.var (by walk_at "vr") (Own.opR2 (by walk_at "hp") ?_)
        refine ⟨_, _, _, _, _, _, rfl, (by walk_at "hp"), (by walk_at "hpt"), (by walk_at "pcs"), (by assumption), (by omega), (by omega), (by omega), lm3, fun r15 dr15 q15 zs15 H15 S15 nr15 hr15 hq15 hz15 => ?_⟩
        with_reducible refine Rd.cons (Rd.op (Rd.var (by walk_at "vr") (Rd.var (by walk_at "vr") ?_)))
        refine ⟨_, _, _, rfl, rfl, (by walk_at "hp"), (by walk_at "sc"), (by walk_at "sc"), (by walk_at "rep"), fun c4 nc4 => ?_⟩
        with_reducible refine Rd.nil ?_
        refine ⟨_, _, _, _, _, _, _, rfl, (by walk_at "hp"), (by walk_at "hpt"), (by walk_at "pcs"), (by assumption), (by omega), (by walk_at "hp"), (by walk_at "pcs"), fun H16 S16 => ?_⟩
        with_reducible refine Rd.bl (Rd.iteF (by walk_at "bF") (Rd.not (Rd.tb (Rd.call (Rd.cons (Rd.var (by walk_at "vr") (Rd.cons (Rd.var (by walk_at "vr") (Rd.nil ?_)))))))))
        refine ⟨_, _, _, _, _, _, _, rfl, (by walk_at "hp"), (by walk_at "hpt"), (by walk_at "pcs"), (by assumption), (by omega), (by walk_at "hp"), (by walk_at "pcs"), fun H17 S17 => ?_⟩
        with_reducible refine Rd.bl (Rd.iteF (by walk_at "bF") (Rd.next (Rd.seq (Rd.ifS (Rd.not (Rd.tb (Rd.call (Rd.cons (Rd.var (by walk_at "vr") (Rd.cons (Rd.var (by walk_at "vr") ?_)))))))))))
        with_reducible refine Rd.nil ?_
        refine ⟨_, _, _, _, _, _, _, rfl, (by walk_at "hp"), (by walk_at "hpt"), (by walk_at "pcs"), (by assumption), (by omega), (by walk_at "hp"), (by walk_at "pcs"), fun H18 S18 => ?_⟩
        with_reducible refine Rd.bl (Rd.iteF (by walk_at "bF") (Rd.next (Rd.seq (Rd.ifS (Rd.test (Rd.op (Rd.op (Rd.var (by walk_at "vr") (Rd.var (by walk_at "vr") (Own.cmp2 (by walk_at "hp") (by walk_at "tyx") (by walk_at "nf") ?_))))))))))
        refine ⟨_, _, _, _, _, _, rfl, (by walk_at "hp"), (by walk_at "hpt"), (by walk_at "pcs"), (by assumption), (by omega), .inl ⟨_, _, _, _, _, rfl, (by walk_at "hp"), (by walk_at "hpt"), (by walk_at "pcs"), (by assumption), (by omega), fun HE SE => ?_⟩⟩
        with_reducible refine Rd.op (Rd.var (by walk_at "vr") (Rd.var (by walk_at "vr") ?_))
        refine ⟨_, _, (by walk_at "dp"), (by walk_at "dp"), (by walk_at "shp"), (by walk_at "shp"), ?_⟩
        with_reducible refine Rd.neS (by walk_at "vr") (Rd.bl (Rd.iteF (by walk_at "bF") (Rd.next (Rd.seq (Rd.ifS (Rd.or (Rd.test (Rd.op (Rd.op (Rd.var (by walk_at "vr") (Rd.var (by walk_at "vr") ?_)))))))))))
        with_reducible refine Own.ne2 (by walk_at "hp") (by walk_at "tyx") (by walk_at "nf") ?_
        refine ⟨_, _, _, _, _, _, rfl, (by walk_at "hp"), (by walk_at "hpt"), (by walk_at "pcs"), (by assumption), (by omega), .inl ⟨_, _, _, _, _, rfl, (by walk_at "hp"), (by walk_at "hpt"), (by walk_at "pcs"), (by assumption), (by omega), fun HE SE => ?_⟩⟩
        refine ⟨_, rfl, ?_⟩
        with_reducible refine Rd.op (Rd.var (by walk_at "vr") (Rd.var (by walk_at "vr") ?_))
        refine ⟨_, _, (by walk_at "dp"), (by walk_at "dp"), (by walk_at "shp"), (by walk_at "shp"), ?_⟩
        with_reducible refine Rd.neS (by walk_at "vr") (Rd.bl (Rd.iteF (by walk_at "bF") (Rd.test (Rd.op (Rd.var (by walk_at "vr") (Rd.var (by walk_at "vr") (Own.cmp2 (by walk_at "hp") (by walk_at "tyx") (by walk_at "nf") ?_)))))))
        refine ⟨_, _, _, _, _, _, rfl, (by walk_at "hp"), (by walk_at "hpt"), (by walk_at "pcs"), (by assumption), (by omega), .inr ⟨_, _, rfl, (by walk_at "hp"), ?_⟩⟩
        with_reducible refine Rd.bl (Rd.iteF (by walk_at "bF") (Rd.next (Rd.seq (Rd.ifS (Rd.and (Rd.test (Rd.op (Rd.cB (Rd.cons (Rd.var (by walk_at "vr") (Rd.nil ?_)))))))))))
        with_reducible refine ⟨_, _, rfl, (by walk_at "hpq"), (Rd.c (Rd.eqS (by walk_at "vr") (Rd.bl ?_)))⟩
        refine Rd.ite (fun h10 => ?_) (fun h10 => ?_)
        · try simp only [decide_eq_true_eq, Bool.not_eq_true', decide_eq_false_iff_not, Bool.not_eq_true, Bool.not_eq_eq_eq_not, Bool.not_true, Bool.not_false] at h10
          with_reducible refine Rd.test (Rd.op (Rd.mkR (Rd.cons (Rd.op (Rd.var (by walk_at "vr") (Rd.c ?_))))))
          obtain ⟨v0, v1, rfl⟩ := two_of (by assumption)
          refine Rd.ixL (by walk_at "hpl") (show atI [v0, v1] 0 = some v0 from rfl) ?_
          with_reducible refine Rd.cons (Rd.op (Rd.var (by walk_at "vr") (Rd.c ?_)))
          refine Rd.ixL (by walk_at "hpl") (show atI [v0, v1] 1 = some v1 from rfl) ?_
          with_reducible refine Rd.nil ?_
          intro x22 dx22 nx22 ndx22 ne22
          refine ⟨[_], [v0, v1], rfl, rfl, (Nat.le_of_lt (L2.small1000 (by simp))), fun pp22 npp22 => ?_⟩
          have np22 : pp22 ≠ x22 := ne_none' npp22 L2.upd_same
          refine ⟨_, _, _, _, pO, rfl, (by walk_at "hp"), (.of L2.upd_same), (by walk_at "pcs"), gO, (by omega), fun H22 F22 r22 => ⟨rfl, ?_⟩⟩
          have sq22 : SqT K H22 pp22 [v0, v1] := .of (by walk_at "hp")
          with_reducible refine Rd.var (by walk_at "vr") (Own.ne2 (by walk_at "hp") (by walk_at "tyx") (by walk_at "nf") ?_)
          refine ⟨_, _, _, _, _, _, rfl, (by walk_at "hp"), (by walk_at "hpt"), (by walk_at "pcs"), (by assumption), (by omega), .inl ⟨_, _, _, _, _, rfl, (by walk_at "hp"), (by walk_at "hpt"), (by walk_at "pcs"), (by assumption), (by omega), fun HE SE => ?_⟩⟩
          refine ⟨_, rfl, ?_⟩
          with_reducible refine Rd.bl (Rd.iteF (by walk_at "bF") (Rd.next (Rd.ifS (Rd.not (Rd.tb (Rd.call (Rd.cons (Rd.var (by walk_at "vr") (Rd.cons (Rd.var (by walk_at "vr") (Rd.nil ?_)))))))))))
          refine ⟨_, _, _, _, _, _, rfl, (by walk_at "hp"), (by walk_at "pcs"), (by assumption), (by omega), (by walk_at "hp"), (by walk_at "pcs"), (by assumption), (by omega), fun H24 S24 => ?_⟩
          with_reducible refine Rd.bl (Rd.iteF (by walk_at "bF") (Rd.next ?_))
          exact ⟨_, _, _, _, _, _, _, rfl, (by walk_at "frm")⟩
        · try simp only [decide_eq_true_eq, Bool.not_eq_true', decide_eq_false_iff_not, Bool.not_eq_true, Bool.not_eq_eq_eq_not, Bool.not_true, Bool.not_false, Int.not_lt, Int.not_le, Decidable.not_not] at h10
          with_reducible refine Rd.iteF rfl (Rd.next (Rd.ifS (Rd.not (Rd.tb (Rd.call (Rd.cons (Rd.var (by walk_at "vr") (Rd.cons (Rd.var (by walk_at "vr") (Rd.nil ?_))))))))))
          refine ⟨_, _, _, _, _, _, rfl, (by walk_at "hp"), (by walk_at "pcs"), (by assumption), (by omega), (by walk_at "hp"), (by walk_at "pcs"), (by assumption), (by omega), fun H25 S25 => ?_⟩
          with_reducible refine Rd.bl (Rd.iteF (by walk_at "bF") (Rd.next ?_))
          exact ⟨_, _, _, _, _, _, _, rfl, (by walk_at "frm")⟩
    · subst es
      with_reducible refine Rd.ret (Rd.andV (Rd.op (Rd.mkR0 ?_)))
      intro x26 dx26 nx26 ndx26 ne26
      refine ⟨[_], [], rfl, rfl, (Nat.le_of_lt (L2.small1000 (by simp))), fun pp26 npp26 => ?_⟩
      have np26 : pp26 ≠ x26 := ne_none' npp26 L2.upd_same
      refine ⟨_, _, _, _, [], rfl, (by walk_at "hp"), (.of L2.upd_same), trivial, GoodP.nil, (by simp), fun H26 F26 r26 => ⟨rfl, ?_⟩⟩
      have sq26 : SqT K H26 pp26 [] := .of (by walk_at "hp")
      have pn26 : Pcs H26 [] [] := trivial
      have gn26 := GoodP.nil
      have ln26 : ([] : List (Int × Str)).length = 0 := rfl
      with_reducible refine Rd.call (Rd.cons (Rd.lst (Rd.nil (Rd.laid (by walk_at "ll") ?_))))
      intro p1 np1
      with_reducible refine Rd.nil ?_
      refine ⟨_, _, _, rfl, (by walk_at "hp"), (show Pcs _ [] [] from trivial), GoodP.nil, (by omega), fun rZ drZ qZ zsZ HZ SZ nrZ hrZ hqZ hzZ => ?_⟩
      with_reducible refine Own.cmp2 (by walk_at "hp") (by walk_at "tyx") (by walk_at "nf") ?_
      refine ⟨_, _, _, _, _, _, rfl, (by walk_at "hp"), (by walk_at "hpt"), (by walk_at "pcs"), (by assumption), (by omega), .inl ⟨_, _, _, _, _, rfl, (by walk_at "hp"), (by walk_at "hpt"), (by walk_at "pcs"), (by assumption), (by omega), fun HE SE => ?_⟩⟩
      with_reducible refine Rd.bl (Rd.iteT (by walk_at "bT") (Rd.op (Rd.meth (Rd.mkR0 ?_))))
      intro x29 dx29 nx29 ndx29 ne29
      refine ⟨[_], [], rfl, rfl, (Nat.le_of_lt (L2.small1000 (by simp))), fun pp29 npp29 => ?_⟩
      have np29 : pp29 ≠ x29 := ne_none' npp29 L2.upd_same
      refine ⟨_, _, _, _, [], rfl, (by walk_at "hp"), (.of L2.upd_same), trivial, GoodP.nil, (by simp), fun H29 F29 r29 => ⟨rfl, ?_⟩⟩
      have sq29 : SqT K H29 pp29 [] := .of (by walk_at "hp")
      have pn29 : Pcs H29 [] [] := trivial
      have gn29 := GoodP.nil
      have ln29 : ([] : List (Int × Str)).length = 0 := rfl
      with_reducible refine ⟨_, _, _, rfl, (by walk_at "hp"), (by walk_at "lk"), (Rd.nil ?_)⟩
      refine ⟨_, _, _, _, _, rfl, (by walk_at "hp"), (by walk_at "hpt"), (by walk_at "pcs"), (by assumption), (by omega), fun H30 S30 => ?_⟩
      with_reducible refine Rd.c (Rd.eqS (by walk_at "vr") ?_)
      exact k _
end
theorem all_mk {l : PySem.W.OpenLaw} {w : World} {K : PySem.W.Frag} {h : Heap} {mg : Str → Option Value} {fa f_is_whole f_is_whole_from f_is_word_of f_is_piece f_check_pieces f_Runu__initu_ f_Run_pieces f_deeds_of f_Run_all_deeds f_pieces_of f_Runu__addu_ f_Runu__iaddu_ f_Runu__mulu_ f_Runu__rmulu_ f_Runu__equ_ f_Runu__lenu_ f_Runu__getitemu_ f_l_source f_l_draw f_l_pick f_l_pieces f_l_run f_l_is f_l_changed f_law c_Run p_Run_pieces : Addr} (X : K.In h) (G : h.Ns mainGlobals mg) (hfa : mg "law" = some (.ref fa))
    {fd_is_whole : FuncData}
    {fd_is_whole_from : FuncData}
    {fd_is_word_of : FuncData}
    {fd_is_piece : FuncData}
    {fd_check_pieces : FuncData}
    {fd_Runu__initu_ : FuncData}
    {fd_Run_pieces : FuncData}
    {fd_deeds_of : FuncData}
    {fd_Run_all_deeds : FuncData}
    {fd_pieces_of : FuncData}
    {fd_Runu__addu_ : FuncData}
    {fd_Runu__iaddu_ : FuncData}
    {fd_Runu__mulu_ : FuncData}
    {fd_Runu__rmulu_ : FuncData}
    {fd_Runu__equ_ : FuncData}
    {fd_Runu__lenu_ : FuncData}
    {fd_Runu__getitemu_ : FuncData}
    {fd_l_source : FuncData}
    {fd_l_draw : FuncData}
    {fd_l_pick : FuncData}
    {fd_l_pieces : FuncData}
    {fd_l_run : FuncData}
    {fd_l_is : FuncData}
    {fd_l_changed : FuncData}
    {fd_law : FuncData}
    {t_MOST_PIECES : Tok}
    {t_MOST_COPIES : Tok}
    {t_MOST_TIMES : Tok}
    {t_WORDS : Addr}
    {rs_Run_pieces : List Value}
    {rc_Runu__mulu_ fo_Runu__mulu_ ro_Runu__mulu_ : Option Value}
    {l0_Runu__rmulu_ : Addr}
    (h_n_abs : PySem.W.nsIn K mainGlobals "abs" = some none)
    (h_n_bool : PySem.W.nsIn K mainGlobals "bool" = some none)
    (h_n_enumerate : PySem.W.nsIn K mainGlobals "enumerate" = some none)
    (h_n_int : PySem.W.nsIn K mainGlobals "int" = some none)
    (h_n_isinstance : PySem.W.nsIn K mainGlobals "isinstance" = some none)
    (h_n_len : PySem.W.nsIn K mainGlobals "len" = some none)
    (h_n_list : PySem.W.nsIn K mainGlobals "list" = some none)
    (h_n_max : PySem.W.nsIn K mainGlobals "max" = some none)
    (h_n_min : PySem.W.nsIn K mainGlobals "min" = some none)
    (h_n_range : PySem.W.nsIn K mainGlobals "range" = some none)
    (h_n_str : PySem.W.nsIn K mainGlobals "str" = some none)
    (h_n_sum : PySem.W.nsIn K mainGlobals "sum" = some none)
    (h_n_tuple : PySem.W.nsIn K mainGlobals "tuple" = some none)
    (h_m_MOST_PIECES : PySem.W.nsIn K mainGlobals "MOST_PIECES" = some (some (.int (100) t_MOST_PIECES)))
    (h_m_MOST_COPIES : PySem.W.nsIn K mainGlobals "MOST_COPIES" = some (some (.int (100) t_MOST_COPIES)))
    (h_m_MOST_TIMES : PySem.W.nsIn K mainGlobals "MOST_TIMES" = some (some (.int (10000000000000000000000000000000000000000) t_MOST_TIMES)))
    (h_m_WORDS : PySem.W.nsIn K mainGlobals "WORDS" = some (some (.ref t_WORDS)))
    (h_m_Run : PySem.W.nsIn K mainGlobals "Run" = some (some (.ref c_Run)))
    (h_n_Run_pieces : PySem.W.findIn K (.ref c_Run) "_pieces" = some none)
    (h_m_is_whole : PySem.W.nsIn K mainGlobals "is_whole" = some (some (.ref f_is_whole)))
    (h_m_is_whole_from : PySem.W.nsIn K mainGlobals "is_whole_from" = some (some (.ref f_is_whole_from)))
    (h_m_is_word_of : PySem.W.nsIn K mainGlobals "is_word_of" = some (some (.ref f_is_word_of)))
    (h_m_is_piece : PySem.W.nsIn K mainGlobals "is_piece" = some (some (.ref f_is_piece)))
    (h_m_check_pieces : PySem.W.nsIn K mainGlobals "check_pieces" = some (some (.ref f_check_pieces)))
    (h_m_deeds_of : PySem.W.nsIn K mainGlobals "deeds_of" = some (some (.ref f_deeds_of)))
    (h_m_pieces_of : PySem.W.nsIn K mainGlobals "pieces_of" = some (some (.ref f_pieces_of)))
    (h_m_l_source : PySem.W.nsIn K mainGlobals "_law_source" = some (some (.ref f_l_source)))
    (h_m_l_draw : PySem.W.nsIn K mainGlobals "_law_draw" = some (some (.ref f_l_draw)))
    (h_m_l_pick : PySem.W.nsIn K mainGlobals "_law_pick" = some (some (.ref f_l_pick)))
    (h_m_l_pieces : PySem.W.nsIn K mainGlobals "_law_pieces" = some (some (.ref f_l_pieces)))
    (h_m_l_run : PySem.W.nsIn K mainGlobals "_law_run" = some (some (.ref f_l_run)))
    (h_m_l_is : PySem.W.nsIn K mainGlobals "_law_is" = some (some (.ref f_l_is)))
    (h_m_l_changed : PySem.W.nsIn K mainGlobals "_law_changed" = some (some (.ref f_l_changed)))
    (h_m_law : PySem.W.nsIn K mainGlobals "law" = some (some (.ref f_law)))
    (h_in_Run : PySem.W.findIn K (.ref c_Run) "__init__" = some (some (.ref f_Runu__initu_)))
    (h_a_Run_all_deeds : PySem.W.findIn K (.ref c_Run) "all_deeds" = some (some (.ref f_Run_all_deeds)))
    (h_a1_Run_pieces : PySem.W.findIn K (.ref c_Run) "pieces" = some (some (.ref p_Run_pieces)))
    (h_bn_Runu__addu_ : PySem.W.findIn K (.ref c_Run) (PySem.dunder (Operator.info .Add).2) = some (some (.ref f_Runu__addu_)))
    (h_bx_Runu__iaddu_ : PySem.W.findIn K (.ref c_Run) (dunderI (Operator.info .Add).2) = some (some (.ref f_Runu__iaddu_)))
    (h_bn_Runu__mulu_ : PySem.W.findIn K (.ref c_Run) (PySem.dunder (Operator.info .Mult).2) = some (some (.ref f_Runu__mulu_)))
    (h_br_Runu__rmulu_ : PySem.W.findIn K (.ref c_Run) (dunderR (Operator.info .Mult).2) = some (some (.ref f_Runu__rmulu_)))
    (h_a_Runu__equ_ : PySem.W.findIn K (.ref c_Run) "__eq__" = some (some (.ref f_Runu__equ_)))
    (h_a_Runu__lenu_ : PySem.W.findIn K (.ref c_Run) "__len__" = some (some (.ref f_Runu__lenu_)))
    (h_a_Runu__getitemu_ : PySem.W.findIn K (.ref c_Run) "__getitem__" = some (some (.ref f_Runu__getitemu_)))
    (h_a2_Run_pieces : PySem.W.recIn K p_Run_pieces "property" = some (.ref f_Run_pieces :: rs_Run_pieces))
    (h_tq_WORDS : Hd.tupB K t_WORDS [.str "put", .str "take", .str "pair"] = true)
    (h_pg_Run : PySem.W.plainGet K c_Run Str.empty = true)
    (h_hd_Run : PySem.W.hasDictIn K c_Run = true)
    (h_po_Run : PySem.W.plainOver K c_Run = true)
    (h_sa_Run : PySem.W.findIn K (.ref c_Run) "__setattr__" = some (some (.builtin "object.__setattr__")))
    (h_mk_Run : PySem.W.makesIn K c_Run = true)
    (h_ii_Run : PySem.W.isFn K (.ref f_Runu__initu_) = true)
    (h_kp_Run : PySem.W.keepIn K (.ref c_Run) = true)
    (h_ha_Run : PySem.W.findIn K (.ref c_Run) "__class__" = some (some (.builtin "object.__class__")))
    (h_mo_Run : PySem.W.mroIn K c_Run (.type "object") = some true)
    (h_hn_Run : PySem.W.specialIn K (.builtin "object.__class__") "__get__" = some (some (.builtin "getset_descriptor.__get__")))
    (h_htk_Run : PySem.W.takesIn K (.builtin "object.__class__") = some true)
    (h_kt_Run_Run : PySem.W.kitOne K (.ref c_Run) (.ref c_Run) = some true)
    (h_kt_list_Run : PySem.W.kitOne K (.type "list") (.ref c_Run) = some false)
    (h_F_is_whole : FunD K "is_whole" "is_whole" (defArgs s_is_whole) (defBody s_is_whole) (defScope s_is_whole) [] [] f_is_whole fd_is_whole)
    (h_F_is_whole_from : FunD K "is_whole_from" "is_whole_from" (defArgs s_is_whole_from) (defBody s_is_whole_from) (defScope s_is_whole_from) [] [] f_is_whole_from fd_is_whole_from)
    (h_F_is_word_of : FunD K "is_word_of" "is_word_of" (defArgs s_is_word_of) (defBody s_is_word_of) (defScope s_is_word_of) [] [] f_is_word_of fd_is_word_of)
    (h_F_is_piece : FunD K "is_piece" "is_piece" (defArgs s_is_piece) (defBody s_is_piece) (defScope s_is_piece) [] [] f_is_piece fd_is_piece)
    (h_F_check_pieces : FunD K "check_pieces" "check_pieces" (defArgs s_check_pieces) (defBody s_check_pieces) (defScope s_check_pieces) [] [] f_check_pieces fd_check_pieces)
    (h_F_Runu__initu_ : FunD K "__init__" "Run.__init__" (defArgs s_Runu__initu_) (defBody s_Runu__initu_) (defScope s_Runu__initu_) [] [] f_Runu__initu_ fd_Runu__initu_)
    (h_F_Run_pieces : FunD K "pieces" "Run.pieces" (defArgs s_Run_pieces) (defBody s_Run_pieces) (defScope s_Run_pieces) [] [] f_Run_pieces fd_Run_pieces)
    (h_F_deeds_of : FunD K "deeds_of" "deeds_of" (defArgs s_deeds_of) (defBody s_deeds_of) (defScope s_deeds_of) [] [] f_deeds_of fd_deeds_of)
    (h_i_Run_all_deeds : PySem.W.isFn K (.ref f_Run_all_deeds) = true)
    (h_F_Run_all_deeds : FunD K "all_deeds" "Run.all_deeds" (defArgs s_Run_all_deeds) (defBody s_Run_all_deeds) (defScope s_Run_all_deeds) [] [] f_Run_all_deeds fd_Run_all_deeds)
    (h_F_pieces_of : FunD K "pieces_of" "pieces_of" (defArgs s_pieces_of) (defBody s_pieces_of) (defScope s_pieces_of) [] [] f_pieces_of fd_pieces_of)
    (h_F_Runu__addu_ : FunD K "__add__" "Run.__add__" (defArgs s_Runu__addu_) (defBody s_Runu__addu_) (defScope s_Runu__addu_) [] [] f_Runu__addu_ fd_Runu__addu_)
    (h_F_Runu__iaddu_ : FunD K "__iadd__" "Run.__iadd__" (defArgs s_Runu__iaddu_) (defBody s_Runu__iaddu_) (defScope s_Runu__iaddu_) [] [] f_Runu__iaddu_ fd_Runu__iaddu_)
    (h_F_Runu__mulu_ : FunD K "__mul__" "Run.__mul__" (defArgs s_Runu__mulu_) (defBody s_Runu__mulu_) (defScope s_Runu__mulu_) [] [] f_Runu__mulu_ fd_Runu__mulu_)
    (h_F_Runu__rmulu_ : FunD K "__rmul__" "Run.__rmul__" (defArgs s_Runu__rmulu_) (defBody s_Runu__rmulu_) (defScope s_Runu__rmulu_) [] [] f_Runu__rmulu_ fd_Runu__rmulu_)
    (h_F_Runu__equ_ : FunD K "__eq__" "Run.__eq__" (defArgs s_Runu__equ_) (defBody s_Runu__equ_) (defScope s_Runu__equ_) [] [] f_Runu__equ_ fd_Runu__equ_)
    (h_F_Runu__lenu_ : FunD K "__len__" "Run.__len__" (defArgs s_Runu__lenu_) (defBody s_Runu__lenu_) (defScope s_Runu__lenu_) [] [] f_Runu__lenu_ fd_Runu__lenu_)
    (h_F_Runu__getitemu_ : FunD K "__getitem__" "Run.__getitem__" (defArgs s_Runu__getitemu_) (defBody s_Runu__getitemu_) (defScope s_Runu__getitemu_) [] [] f_Runu__getitemu_ fd_Runu__getitemu_)
    (h_F_l_source : FunD K "_law_source" "_law_source" (defArgs s_l_source) (defBody s_l_source) (defScope s_l_source) [] [] f_l_source fd_l_source)
    (h_F_l_draw : FunD K "_law_draw" "_law_draw" (defArgs s_l_draw) (defBody s_l_draw) (defScope s_l_draw) [] [] f_l_draw fd_l_draw)
    (h_F_l_pick : FunD K "_law_pick" "_law_pick" (defArgs s_l_pick) (defBody s_l_pick) (defScope s_l_pick) [] [] f_l_pick fd_l_pick)
    (h_F_l_pieces : FunD K "_law_pieces" "_law_pieces" (defArgs s_l_pieces) (defBody s_l_pieces) (defScope s_l_pieces) [] [] f_l_pieces fd_l_pieces)
    (h_F_l_run : FunD K "_law_run" "_law_run" (defArgs s_l_run) (defBody s_l_run) (defScope s_l_run) [] [] f_l_run fd_l_run)
    (h_F_l_is : FunD K "_law_is" "_law_is" (defArgs s_l_is) (defBody s_l_is) (defScope s_l_is) [] [] f_l_is fd_l_is)
    (h_F_l_changed : FunD K "_law_changed" "_law_changed" (defArgs s_l_changed) (defBody s_l_changed) (defScope s_l_changed) [] [] f_l_changed fd_l_changed)
    (h_F_law : FunD K "law" "law" (defArgs s_law) (defBody s_law) (defScope s_law) [] [] f_law fd_law)
    (h_pg_Run_pieces : PySem.W.specialIn K (.ref p_Run_pieces) "__get__" = some (some (.builtin "property.__get__")))
    (h_pt_Run_pieces : PySem.W.takesIn K (.ref p_Run_pieces) = some true)
    (h_sf_Run : PySem.W.selfFirst K c_Run = true)
    (h_i_Runu__addu_ : PySem.W.isFn K (.ref f_Runu__addu_) = true)
    (h_i_Runu__iaddu_ : PySem.W.isFn K (.ref f_Runu__iaddu_) = true)
    (h_i_Runu__mulu_ : PySem.W.isFn K (.ref f_Runu__mulu_) = true)
    (h_rc_Runu__mulu_ : PySem.W.findIn K (.ref c_Run) (dunderR (Operator.info .Mult).2) = some rc_Runu__mulu_)
    (h_rp_Runu__mulu_ : rc_Runu__mulu_ = none ∨ ∃ g : Addr, rc_Runu__mulu_ = some (.ref g))
    (h_fo_Runu__mulu_ : PySem.W.findIn K (.type "int") (PySem.dunder (Operator.info .Mult).2) = some fo_Runu__mulu_)
    (h_ro_Runu__mulu_ : PySem.W.findIn K (.type "int") (dunderR (Operator.info .Mult).2) = some ro_Runu__mulu_)
    (h_su_Run : PySem.W.subIn K (.type "int") (.ref c_Run) = some false)
    (h_l0_Runu__rmulu_ : PySem.W.findIn K (.ref c_Run) (PySem.dunder (Operator.info .Mult).2) = some (some (.ref l0_Runu__rmulu_)))
    (h_i_Runu__rmulu_ : PySem.W.isFn K (.ref f_Runu__rmulu_) = true)
    (h_sv_Run : PySem.W.subIn K (.ref c_Run) (.type "int") = some false)
    (h_i_Runu__equ_ : PySem.W.isFn K (.ref f_Runu__equ_) = true)
    (h_ne_Runu__equ_ : PySem.W.findIn K (.ref c_Run) "__ne__" = some (some (.builtin "object.__ne__")))
    (h_ob_Runu__equ_ : PySem.W.subIn K (.ref c_Run) (.type "object") = some true)
    (h_i_Runu__lenu_ : PySem.W.isFn K (.ref f_Runu__lenu_) = true)
    (h_i_Runu__getitemu_ : PySem.W.isFn K (.ref f_Runu__getitemu_) = true)
    (h_fi_Runu__getitemu_ : PySem.W.fnIn K f_Runu__getitemu_ = true)
    (h_nf_Run_Run : PySem.W.notFirst K c_Run (.ref c_Run) = true)
    (h_nf_list_Run : PySem.W.notFirst K c_Run (.type "list") = true)
    : ∃ fd : FuncData, (∀ (s : Shared) (v : Value), BindsTo s fd ⟨[v], []⟩ [("_law_script", v)]) ∧ ∀ base : Heap, K.In base → base.Ns mainGlobals mg → FnOk l.prog w K mg base CX0 9 fa fd ["_law_script"] (sp_law K) := by
  have e := hfa.symm.trans (PySem.W.mg_of X G h_m_law)
  cases e
  have T : Txt w K mg ⟨f_is_whole, fd_is_whole, f_is_whole_from, fd_is_whole_from, f_is_word_of, fd_is_word_of, f_is_piece, fd_is_piece, f_check_pieces, fd_check_pieces, f_Runu__initu_, fd_Runu__initu_, f_Run_pieces, fd_Run_pieces, f_deeds_of, fd_deeds_of, f_Run_all_deeds, fd_Run_all_deeds, f_pieces_of, fd_pieces_of, f_Runu__addu_, fd_Runu__addu_, f_Runu__iaddu_, fd_Runu__iaddu_, f_Runu__mulu_, fd_Runu__mulu_, f_Runu__rmulu_, fd_Runu__rmulu_, f_Runu__equ_, fd_Runu__equ_, f_Runu__lenu_, fd_Runu__lenu_, f_Runu__getitemu_, fd_Runu__getitemu_, f_l_source, fd_l_source, f_l_draw, fd_l_draw, f_l_pick, fd_l_pick, f_l_pieces, fd_l_pieces, f_l_run, fd_l_run, f_l_is, fd_l_is, f_l_changed, fd_l_changed, fa, fd_law, c_Run, p_Run_pieces, t_MOST_PIECES, t_MOST_COPIES, t_MOST_TIMES, t_WORDS⟩ := {
    n_abs := PySem.W.mg_none_of X G h_n_abs,
    n_bool := PySem.W.mg_none_of X G h_n_bool,
    n_enumerate := PySem.W.mg_none_of X G h_n_enumerate,
    n_int := PySem.W.mg_none_of X G h_n_int,
    n_isinstance := PySem.W.mg_none_of X G h_n_isinstance,
    n_len := PySem.W.mg_none_of X G h_n_len,
    n_list := PySem.W.mg_none_of X G h_n_list,
    n_max := PySem.W.mg_none_of X G h_n_max,
    n_min := PySem.W.mg_none_of X G h_n_min,
    n_range := PySem.W.mg_none_of X G h_n_range,
    n_str := PySem.W.mg_none_of X G h_n_str,
    n_sum := PySem.W.mg_none_of X G h_n_sum,
    n_tuple := PySem.W.mg_none_of X G h_n_tuple,
    m_MOST_PIECES := PySem.W.mg_of X G h_m_MOST_PIECES,
    m_MOST_COPIES := PySem.W.mg_of X G h_m_MOST_COPIES,
    m_MOST_TIMES := PySem.W.mg_of X G h_m_MOST_TIMES,
    m_WORDS := PySem.W.mg_of X G h_m_WORDS,
    q_WORDS := Hd.tupB_ok h_tq_WORDS,
    m_Run := PySem.W.mg_of X G h_m_Run,
    k_Run := ⟨h_pg_Run, h_hd_Run, h_po_Run, h_sa_Run⟩,
    n_Run_pieces := h_n_Run_pieces,
    K_Run := ⟨h_mk_Run, h_in_Run, h_ii_Run, h_kp_Run⟩,
    i_Run := ⟨h_ha_Run, h_hn_Run, h_htk_Run, h_mo_Run⟩,
    kt_Run_Run := h_kt_Run_Run,
    kt_list_Run := h_kt_list_Run,
    m_is_whole := PySem.W.mg_of X G h_m_is_whole,
    F_is_whole := Hd.plain h_F_is_whole,
    b_is_whole := (Hd.plain h_F_is_whole).binds fun _ _ _ _ _ _ us hl => match us, hl with | [_], _ => rfl,
    m_is_whole_from := PySem.W.mg_of X G h_m_is_whole_from,
    F_is_whole_from := Hd.plain h_F_is_whole_from,
    b_is_whole_from := (Hd.plain h_F_is_whole_from).binds fun _ _ _ _ _ _ us hl => match us, hl with | [_, _, _], _ => rfl,
    m_is_word_of := PySem.W.mg_of X G h_m_is_word_of,
    F_is_word_of := Hd.plain h_F_is_word_of,
    b_is_word_of := (Hd.plain h_F_is_word_of).binds fun _ _ _ _ _ _ us hl => match us, hl with | [_, _], _ => rfl,
    m_is_piece := PySem.W.mg_of X G h_m_is_piece,
    F_is_piece := Hd.plain h_F_is_piece,
    b_is_piece := (Hd.plain h_F_is_piece).binds fun _ _ _ _ _ _ us hl => match us, hl with | [_], _ => rfl,
    m_check_pieces := PySem.W.mg_of X G h_m_check_pieces,
    F_check_pieces := Hd.plain h_F_check_pieces,
    b_check_pieces := (Hd.plain h_F_check_pieces).binds fun _ _ _ _ _ _ us hl => match us, hl with | [_], _ => rfl,
    F_Runu__initu_ := Hd.plain h_F_Runu__initu_,
    F_Run_pieces := Hd.plain h_F_Run_pieces,
    b_Run_pieces := (Hd.plain h_F_Run_pieces).binds fun _ _ _ _ _ _ us hl => match us, hl with | [_], _ => rfl,
    m_deeds_of := PySem.W.mg_of X G h_m_deeds_of,
    F_deeds_of := Hd.plain h_F_deeds_of,
    b_deeds_of := (Hd.plain h_F_deeds_of).binds fun _ _ _ _ _ _ us hl => match us, hl with | [_, _], _ => rfl,
    M_Run_all_deeds := ⟨h_a_Run_all_deeds, h_i_Run_all_deeds, h_F_Run_all_deeds.kp⟩,
    F_Run_all_deeds := Hd.plain h_F_Run_all_deeds,
    b_Run_all_deeds := (Hd.plain h_F_Run_all_deeds).binds fun _ _ _ _ _ _ us hl => match us, hl with | [_], _ => rfl,
    m_pieces_of := PySem.W.mg_of X G h_m_pieces_of,
    F_pieces_of := Hd.plain h_F_pieces_of,
    b_pieces_of := (Hd.plain h_F_pieces_of).binds fun _ _ _ _ _ _ us hl => match us, hl with | [_], _ => rfl,
    F_Runu__addu_ := Hd.plain h_F_Runu__addu_,
    b_Runu__addu_ := (Hd.plain h_F_Runu__addu_).binds fun _ _ _ _ _ _ us hl => match us, hl with | [_, _], _ => rfl,
    F_Runu__iaddu_ := Hd.plain h_F_Runu__iaddu_,
    b_Runu__iaddu_ := (Hd.plain h_F_Runu__iaddu_).binds fun _ _ _ _ _ _ us hl => match us, hl with | [_, _], _ => rfl,
    F_Runu__mulu_ := Hd.plain h_F_Runu__mulu_,
    b_Runu__mulu_ := (Hd.plain h_F_Runu__mulu_).binds fun _ _ _ _ _ _ us hl => match us, hl with | [_, _], _ => rfl,
    F_Runu__rmulu_ := Hd.plain h_F_Runu__rmulu_,
    b_Runu__rmulu_ := (Hd.plain h_F_Runu__rmulu_).binds fun _ _ _ _ _ _ us hl => match us, hl with | [_, _], _ => rfl,
    F_Runu__equ_ := Hd.plain h_F_Runu__equ_,
    b_Runu__equ_ := (Hd.plain h_F_Runu__equ_).binds fun _ _ _ _ _ _ us hl => match us, hl with | [_, _], _ => rfl,
    F_Runu__lenu_ := Hd.plain h_F_Runu__lenu_,
    b_Runu__lenu_ := (Hd.plain h_F_Runu__lenu_).binds fun _ _ _ _ _ _ us hl => match us, hl with | [_], _ => rfl,
    F_Runu__getitemu_ := Hd.plain h_F_Runu__getitemu_,
    b_Runu__getitemu_ := (Hd.plain h_F_Runu__getitemu_).binds fun _ _ _ _ _ _ us hl => match us, hl with | [_, _], _ => rfl,
    m_l_source := PySem.W.mg_of X G h_m_l_source,
    F_l_source := Hd.plain h_F_l_source,
    b_l_source := (Hd.plain h_F_l_source).binds fun _ _ _ _ _ _ us hl => match us, hl with | [_, _], _ => rfl,
    m_l_draw := PySem.W.mg_of X G h_m_l_draw,
    F_l_draw := Hd.plain h_F_l_draw,
    b_l_draw := (Hd.plain h_F_l_draw).binds fun _ _ _ _ _ _ us hl => match us, hl with | [_, _], _ => rfl,
    m_l_pick := PySem.W.mg_of X G h_m_l_pick,
    F_l_pick := Hd.plain h_F_l_pick,
    b_l_pick := (Hd.plain h_F_l_pick).binds fun _ _ _ _ _ _ us hl => match us, hl with | [_, _], _ => rfl,
    m_l_pieces := PySem.W.mg_of X G h_m_l_pieces,
    F_l_pieces := Hd.plain h_F_l_pieces,
    b_l_pieces := (Hd.plain h_F_l_pieces).binds fun _ _ _ _ _ _ us hl => match us, hl with | [_, _], _ => rfl,
    m_l_run := PySem.W.mg_of X G h_m_l_run,
    F_l_run := Hd.plain h_F_l_run,
    b_l_run := (Hd.plain h_F_l_run).binds fun _ _ _ _ _ _ us hl => match us, hl with | [_], _ => rfl,
    m_l_is := PySem.W.mg_of X G h_m_l_is,
    F_l_is := Hd.plain h_F_l_is,
    b_l_is := (Hd.plain h_F_l_is).binds fun _ _ _ _ _ _ us hl => match us, hl with | [_, _], _ => rfl,
    m_l_changed := PySem.W.mg_of X G h_m_l_changed,
    F_l_changed := Hd.plain h_F_l_changed,
    b_l_changed := (Hd.plain h_F_l_changed).binds fun _ _ _ _ _ _ us hl => match us, hl with | [_, _], _ => rfl,
    m_law := PySem.W.mg_of X G h_m_law,
    F_law := Hd.plain h_F_law,
    b_law := (Hd.plain h_F_law).binds fun _ _ _ _ _ _ us hl => match us, hl with | [_], _ => rfl,
    R_Run_pieces := ⟨h_a1_Run_pieces, h_pg_Run_pieces, h_pt_Run_pieces, ⟨_, h_a2_Run_pieces⟩⟩,
    O_Runu__addu__S := ⟨h_sf_Run, h_bn_Runu__addu_, h_i_Runu__addu_⟩,
    O_Runu__iaddu__I := ⟨h_sf_Run, h_bx_Runu__iaddu_, h_i_Runu__iaddu_⟩,
    O_Runu__mulu__S := ⟨h_sf_Run, h_bn_Runu__mulu_, h_i_Runu__mulu_⟩,
    O_Runu__mulu__T := ⟨⟨h_sf_Run, h_bn_Runu__mulu_, h_i_Runu__mulu_⟩, ⟨_, h_rc_Runu__mulu_, h_rp_Runu__mulu_⟩, ⟨_, h_fo_Runu__mulu_⟩, ⟨_, h_ro_Runu__mulu_⟩, h_su_Run⟩,
    O_Runu__rmulu__R := ⟨h_sf_Run, ⟨_, h_l0_Runu__rmulu_⟩, h_br_Runu__rmulu_, h_i_Runu__rmulu_, h_sv_Run⟩,
    O_Runu__equ__1 := ⟨h_a_Runu__equ_, h_i_Runu__equ_⟩,
    O_Runu__equ__N := ⟨h_ne_Runu__equ_, h_a_Runu__equ_, h_i_Runu__equ_, h_ob_Runu__equ_⟩,
    O_Runu__lenu__1 := ⟨h_a_Runu__lenu_, h_i_Runu__lenu_⟩,
    O_Runu__getitemu__1 := ⟨h_a_Runu__getitemu_, h_i_Runu__getitemu_⟩,
    fi_Runu__getitemu_ := h_fi_Runu__getitemu_,
    nf_Run_Run := h_nf_Run_Run,
    nf_list_Run := h_nf_list_Run }
  have bl := FunD.bindsA (ps := ["_law_script"]) h_F_law fun _ _ _ _ _ _ us hl => match us, hl with | [_], _ => rfl
  exact ⟨fd_law, fun s v => bl s [v] rfl, fun base _ _ => ok_law T⟩
theorem facts {P : PySem.W.OpenLaw} {w : World} {K : PySem.W.Frag} {h : Heap} {mg : Str → Option Value} {fa : Addr} (X : K.In h) (G : h.Ns mainGlobals mg) (hfa : mg "law" = some (.ref fa)) (c : Hd.tell fns tbs exs K = Hd.told fns tbs w) :
    ∃ fd : FuncData, (∀ (s : Shared) (v : Value), BindsTo s fd ⟨[v], []⟩ [("_law_script", v)]) ∧ ∀ base : Heap, K.In base → base.Ns mainGlobals mg → FnOk P.prog w K mg base CX0 9 fa fd ["_law_script"] (sp_law K) := by
  have e := Hd.exOf c
  obtain ⟨e0, e⟩ := He.ba e
  obtain ⟨h_n_abs, h_n_bool, h_n_enumerate, h_n_int, h_n_isinstance, h_n_len, h_n_list, h_n_max, h_n_min, h_n_range, h_n_str, h_n_sum⟩ := (show Px0 K from of_decide_eq_true e0)
  obtain ⟨e1, e⟩ := He.ba e
  obtain ⟨h_n_tuple, h_m_MOST_PIECES, h_m_MOST_COPIES, h_m_MOST_TIMES, h_m_WORDS, h_m_Run, h_n_Run_pieces, h_m_is_whole, h_m_is_whole_from, h_m_is_word_of, h_m_is_piece, h_m_check_pieces⟩ := (show Px1 K from of_decide_eq_true e1)
  obtain ⟨e2, e⟩ := He.ba e
  obtain ⟨h_m_deeds_of, h_m_pieces_of, h_m_l_source, h_m_l_draw, h_m_l_pick, h_m_l_pieces, h_m_l_run, h_m_l_is, h_m_l_changed, h_m_law, h_in_Run, h_a_Run_all_deeds⟩ := (show Px2 K from of_decide_eq_true e2)
  obtain ⟨e3, e⟩ := He.ba e
  obtain ⟨h_a1_Run_pieces, h_bn_Runu__addu_, h_bx_Runu__iaddu_, h_bn_Runu__mulu_, h_br_Runu__rmulu_, h_a_Runu__equ_, h_a_Runu__lenu_, h_a_Runu__getitemu_, h_a2_Run_pieces, h_tq_WORDS, h_pg_Run, h_hd_Run⟩ := (show Px3 K from of_decide_eq_true e3)
  obtain ⟨e4, e⟩ := He.ba e
  obtain ⟨h_po_Run, h_sa_Run, h_mk_Run, h_ii_Run, h_kp_Run, h_ha_Run, h_mo_Run, h_hn_Run, h_htk_Run, h_kt_Run_Run, h_kt_list_Run, h_i_Run_all_deeds⟩ := (show Px4 K from of_decide_eq_true e4)
  obtain ⟨e5, e⟩ := He.ba e
  obtain ⟨h_pg_Run_pieces, h_pt_Run_pieces, h_sf_Run, h_i_Runu__addu_, h_i_Runu__iaddu_, h_i_Runu__mulu_, h_rc_Runu__mulu_, h_rp_Runu__mulu_, h_fo_Runu__mulu_, h_ro_Runu__mulu_, h_su_Run, h_l0_Runu__rmulu_⟩ := (show Px5 K from of_decide_eq_true e5)
  obtain ⟨e6, e⟩ := He.ba e
  obtain ⟨h_i_Runu__rmulu_, h_sv_Run, h_i_Runu__equ_, h_ne_Runu__equ_, h_ob_Runu__equ_, h_i_Runu__lenu_, h_i_Runu__getitemu_, h_fi_Runu__getitemu_, h_nf_Run_Run, h_nf_list_Run⟩ := (show Px6 K from of_decide_eq_true e6)
  obtain ⟨fd_is_whole, h_F_is_whole⟩ := Hd.fnOf c 0 (d := df0) rfl
  obtain ⟨fd_is_whole_from, h_F_is_whole_from⟩ := Hd.fnOf c 1 (d := df1) rfl
  obtain ⟨fd_is_word_of, h_F_is_word_of⟩ := Hd.fnOf c 2 (d := df2) rfl
  obtain ⟨fd_is_piece, h_F_is_piece⟩ := Hd.fnOf c 3 (d := df3) rfl
  obtain ⟨fd_check_pieces, h_F_check_pieces⟩ := Hd.fnOf c 4 (d := df4) rfl
  obtain ⟨fd_Runu__initu_, h_F_Runu__initu_⟩ := Hd.fnOf c 5 (d := df5) rfl
  obtain ⟨fd_Run_pieces, h_F_Run_pieces⟩ := Hd.fnOf c 6 (d := df6) rfl
  obtain ⟨fd_deeds_of, h_F_deeds_of⟩ := Hd.fnOf c 7 (d := df7) rfl
  obtain ⟨fd_Run_all_deeds, h_F_Run_all_deeds⟩ := Hd.fnOf c 8 (d := df8) rfl
  obtain ⟨fd_pieces_of, h_F_pieces_of⟩ := Hd.fnOf c 9 (d := df9) rfl
  obtain ⟨fd_Runu__addu_, h_F_Runu__addu_⟩ := Hd.fnOf c 10 (d := df10) rfl
  obtain ⟨fd_Runu__iaddu_, h_F_Runu__iaddu_⟩ := Hd.fnOf c 11 (d := df11) rfl
  obtain ⟨fd_Runu__mulu_, h_F_Runu__mulu_⟩ := Hd.fnOf c 12 (d := df12) rfl
  obtain ⟨fd_Runu__rmulu_, h_F_Runu__rmulu_⟩ := Hd.fnOf c 13 (d := df13) rfl
  obtain ⟨fd_Runu__equ_, h_F_Runu__equ_⟩ := Hd.fnOf c 14 (d := df14) rfl
  obtain ⟨fd_Runu__lenu_, h_F_Runu__lenu_⟩ := Hd.fnOf c 15 (d := df15) rfl
  obtain ⟨fd_Runu__getitemu_, h_F_Runu__getitemu_⟩ := Hd.fnOf c 16 (d := df16) rfl
  obtain ⟨fd_l_source, h_F_l_source⟩ := Hd.fnOf c 17 (d := df17) rfl
  obtain ⟨fd_l_draw, h_F_l_draw⟩ := Hd.fnOf c 18 (d := df18) rfl
  obtain ⟨fd_l_pick, h_F_l_pick⟩ := Hd.fnOf c 19 (d := df19) rfl
  obtain ⟨fd_l_pieces, h_F_l_pieces⟩ := Hd.fnOf c 20 (d := df20) rfl
  obtain ⟨fd_l_run, h_F_l_run⟩ := Hd.fnOf c 21 (d := df21) rfl
  obtain ⟨fd_l_is, h_F_l_is⟩ := Hd.fnOf c 22 (d := df22) rfl
  obtain ⟨fd_l_changed, h_F_l_changed⟩ := Hd.fnOf c 23 (d := df23) rfl
  obtain ⟨fd_law, h_F_law⟩ := Hd.fnOf c 24 (d := df24) rfl
  have hfl : fa = He.ga K "law" := by
    have e := hfa.symm.trans (PySem.W.mg_of X G h_m_law)
    cases e
    rfl
  subst hfl
  exact all_mk X G hfa h_n_abs h_n_bool h_n_enumerate h_n_int h_n_isinstance h_n_len h_n_list h_n_max h_n_min h_n_range h_n_str h_n_sum h_n_tuple h_m_MOST_PIECES h_m_MOST_COPIES h_m_MOST_TIMES h_m_WORDS h_m_Run h_n_Run_pieces h_m_is_whole h_m_is_whole_from h_m_is_word_of h_m_is_piece h_m_check_pieces h_m_deeds_of h_m_pieces_of h_m_l_source h_m_l_draw h_m_l_pick h_m_l_pieces h_m_l_run h_m_l_is h_m_l_changed h_m_law h_in_Run h_a_Run_all_deeds h_a1_Run_pieces h_bn_Runu__addu_ h_bx_Runu__iaddu_ h_bn_Runu__mulu_ h_br_Runu__rmulu_ h_a_Runu__equ_ h_a_Runu__lenu_ h_a_Runu__getitemu_ h_a2_Run_pieces h_tq_WORDS h_pg_Run h_hd_Run h_po_Run h_sa_Run h_mk_Run h_ii_Run h_kp_Run h_ha_Run h_mo_Run h_hn_Run h_htk_Run h_kt_Run_Run h_kt_list_Run h_F_is_whole h_F_is_whole_from h_F_is_word_of h_F_is_piece h_F_check_pieces h_F_Runu__initu_ h_F_Run_pieces h_F_deeds_of h_i_Run_all_deeds h_F_Run_all_deeds h_F_pieces_of h_F_Runu__addu_ h_F_Runu__iaddu_ h_F_Runu__mulu_ h_F_Runu__rmulu_ h_F_Runu__equ_ h_F_Runu__lenu_ h_F_Runu__getitemu_ h_F_l_source h_F_l_draw h_F_l_pick h_F_l_pieces h_F_l_run h_F_l_is h_F_l_changed h_F_law h_pg_Run_pieces h_pt_Run_pieces h_sf_Run h_i_Runu__addu_ h_i_Runu__iaddu_ h_i_Runu__mulu_ h_rc_Runu__mulu_ (Hd.noR_ok h_rp_Runu__mulu_) h_fo_Runu__mulu_ h_ro_Runu__mulu_ h_su_Run h_l0_Runu__rmulu_ h_i_Runu__rmulu_ h_sv_Run h_i_Runu__equ_ h_ne_Runu__equ_ h_ob_Runu__equ_ h_i_Runu__lenu_ h_i_Runu__getitemu_ h_fi_Runu__getitemu_ h_nf_Run_Run h_nf_list_Run
end Pk18
open PySem PySem.W PySem.Calls PyProof.Rows
set_option maxRecDepth 100000 in
set_option maxHeartbeats 0 in
theorem PySem.Challenge.cw_ringindexes_k18_runs_put_together_holds : PySem.Challenge.rw_ringindexes_k18_runs_put_together.Holds := by
  w_on; o_law
  refine HandSHeadRun.head_any (r := Pk18.R) (q := (PySem.W.view Pk18.R.prog [27])) (H := Pk18.hk) (ob := Pk18.ob) (M := 200000) (loose := Pk18.loose) (d := (HandSHeadRun.topDef Pk18.R.prog 27)) (kwd := []) Pk18.ob_is
    (by kernel_rfl) (fun s => by kernel_rfl) Pk18.run (by kernel_rfl) (by kernel_rfl) (by kernel_rfl) (by rfl) (by first | assumption | decide +kernel) (by decide +kernel) ⟨rfl, rfl, rfl, rfl, rfl, by decide +kernel⟩ ?hw ?hc
  case hw => w_witness2
  case hc =>
    refine L2.walk_ofE (l := PySem.Challenge.rw_ringindexes_k18_runs_put_together) (n := 63) (k := 9) (x := "_law_script") (CX := L2.CX0) rfl (by decide) (by kernel_rfl) ⟨rfl, by decide, by decide⟩ ?F (fun _ _ _ _ z => z)
    intro w mg fa h Y G hmg0
    obtain ⟨K, KX, c⟩ := Y
    have hmg : mg ("law" : PySem.Str) = some (.ref fa) := by
      have e : (HandSHeadRun.topDef Pk18.R.prog 27).name = ("law" : PySem.Str) := by kernel_rfl
      rw [← e]
      exact hmg0
    obtain ⟨fd, hb, hF⟩ := Pk18.facts (P := PySem.Challenge.rw_ringindexes_k18_runs_put_together) (w := w) KX G hmg c
    exact ⟨K, fd, Pk18.sp_law K, KX, hb, fun H a ns hl _ hS => ⟨a, ns, rfl, hS, hl, fun _ => rfl⟩, hF⟩
