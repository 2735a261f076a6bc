import PyProof.Rows.All
import Wide.All
import OpenK.AllK
import Wide.FinOn
import PyProof.EqAt
import PyProof.EqKinds
import PyProof.TupleCall
import PyProof.InstNe
import KE.RegKIsAll
import HandS.ForMost
import HandS.Wide
import HandS.IsInst
import HandS.OwnEq
import HandS.Star
import HandS.Property
import HandS.Defaults
import HandS.WordsExc
import HandS.ExcOwn
import HandS.TupLe
import HandS.SortKw
import KE.KMinBuiltin
import HandS.TryOnly
import HandS.ExcIs
import HandS.CallLocal
import HandS.Walk
import HandS.StrMore
import HandS.FStr
import HandS.NoneIn
import HandS.SetFor
import PyProof.StrLaws
import HandS.Small
import HandS.StrSplit
import HandS.MakeKwOnly
import HandS.More
import HandS.WideBits
import KE.KSortKey
import HandS.HotCalls
import HandS.Head0
import HandS.Head1
import HandS.Head2
import HandS.Head3
import HandS.HeadEnd
import HandS.HeadHook1
import HandS.HeadHook2
import HandS.HeadHook3
import PySem.Challenge.RW_ringindexes_k14_slots_read_and_laid
set_option Elab.async false
set_option linter.all false
set_option maxRecDepth 100000
set_option maxHeartbeats 40000000
/-! ## steps of readings: each lemma opens one construct -/
namespace Rd
open PySem PySem.Spec PyProof.Rows L2

section
variable {σ : L2.St} {H : Hp} {Q : VK} {D : Ends} {K : PySem.W.Frag}
theorem seq {t u : TS} (h : t { D with nx := u D } σ H) : tSeq t u D σ H := h
theorem next (h : D.nx σ H) : tNext D σ H := h
theorem drop {te : TE} (h : te σ H fun _ H1 => D.nx σ H1) : tDrop te D σ H := h
theorem ret {te : TE} (h : te σ H D.rt) : tRet te D σ H := h
theorem retN (h : D.rt .non H) : tRetN D σ H := h
theorem brk (h : D.bk σ H) : tBreak D σ H := h
theorem cont (h : D.ct σ H) : tCont D σ H := h
theorem ifS {c : TT} {t u : TS} (h : c σ H fun b H1 => if b = true then t D σ H1 else u D σ H1) : tIfS c t u D σ H := h
theorem asg {te : TE} {g : TG} (h : te σ H fun x H1 => g x σ H1 D.nx) : tAsg te g D σ H := h
theorem name {i : Nat} {v : V} {q : L2.St → Hp → Prop} (h : q (σ.set i (some v)) H) : gName i v σ H q := h
theorem par {i j : Nat} {ta : TA} (h : ta σ H fun vs H1 => ∃ v w, vs = [v, w] ∧ D.nx ((σ.set i (some v)).set j (some w)) H1) : tPar i j ta D σ H := h
theorem par2 {i j : Nat} {v w : V} (h : D.nx ((σ.set i (some v)).set j (some w)) H) : ∃ v' w', [v, w] = [v', w'] ∧ D.nx ((σ.set i (some v')).set j (some w')) H := ⟨v, w, rfl, h⟩
theorem var {i : Nat} {v : V} (e : σ[i]? = some (some v)) (h : Q v H) : tVar i σ H Q := ⟨v, e, h⟩
theorem c {v : V} (h : Q v H) : tC v σ H Q := h
theorem op {r : R2} {ta tb : TE} (h : ta σ H fun x H1 => tb σ H1 fun y H2 => r x y H2 Q) : tOp r ta tb σ H Q := h
theorem un {r : V → Hp → VK → Prop} {ta : TE} (h : ta σ H fun x H1 => r x H1 Q) : tUn r ta σ H Q := h
theorem i0 {g : Int → Int → V} {i j : Int} (h : Q (g i j) H) : rI0 g (.int i) (.int j) H Q := ⟨i, j, rfl, rfl, h⟩
theorem iC {C : Int → Int → Prop} {g : Int → Int → V} {i j : Int} (e : C i j) (h : Q (g i j) H) : rI C g (.int i) (.int j) H Q := ⟨i, j, rfl, rfl, e, h⟩
theorem iU {g : Int → V} {i : Int} (h : Q (g i) H) : rU g (.int i) H Q := ⟨i, rfl, h⟩
theorem eqS {x y : V} (e : scal x y = true) (h : Q (.bl (decide (x = y))) H) : rEq x y H Q := ⟨e, h⟩
theorem neS {x y : V} (e : scal x y = true) (h : Q (.bl (!decide (x = y))) H) : rNe x y H Q := ⟨e, h⟩
theorem addS {i j : Str} (e : i.length + j.length ≤ sizeLine) (h : Q (.str (i ++ j)) H) : ∃ a b, V.str i = .str a ∧ V.str j = .str b ∧ a.length + b.length ≤ sizeLine ∧ Q (.str (a ++ b)) H := ⟨i, j, rfl, rfl, e, h⟩
theorem isN {x : V} (h : Q (.bl (decide (x = .non))) H) : V.non = .non ∧ Q (.bl (decide (x = .non))) H := ⟨rfl, h⟩
theorem notN {x : V} (h : Q (.bl (!decide (x = .non))) H) : V.non = .non ∧ Q (.bl (!decide (x = .non))) H := ⟨rfl, h⟩
theorem chain {r r' : R2} {ta tb tc : TE} (h : ta σ H fun x H1 => tb σ H1 fun y H2 => r x y H2 fun z H3 => ∃ k, z = .bl k ∧ (if k = true then tc σ H3 fun w' H4 => r' y w' H4 Q else Q (.bl false) H3)) : tChain r r' ta tb tc σ H Q := h
theorem bl {k : Bool} {A : Bool → Prop} (h : A k) : ∃ c, V.bl k = .bl c ∧ A c := ⟨k, rfl, h⟩
theorem test {t : TE} {q : Bool → Hp → Prop} (h : t σ H fun x H' => ∃ k, x = .bl k ∧ q k H') : tTest t σ H q := h
theorem tb {t : TE} {q : Bool → Hp → Prop} (h : t σ H fun x H' => ∃ k, x = .bl k ∧ q k H') : tB t σ H q := h
theorem and {t u : TT} {q : Bool → Hp → Prop} (h : t σ H fun c H1 => if c = true then u σ H1 q else q false H1) : tAnd t u σ H q := h
theorem or {t u : TT} {q : Bool → Hp → Prop} (h : t σ H fun c H1 => if c = true then q true H1 else u σ H1 q) : tOr t u σ H q := h
theorem not {t : TT} {q : Bool → Hp → Prop} (h : t σ H fun c H1 => q (!c) H1) : tNot t σ H q := h
theorem andV {ta tb : TE} (h : ta σ H fun x H1 => ∃ c, x = .bl c ∧ if c = true then tb σ H1 Q else Q (.bl false) H1) : tAndV ta tb σ H Q := h
theorem orV {ta tb : TE} (h : ta σ H fun x H1 => ∃ c, x = .bl c ∧ if c = true then Q (.bl true) H1 else tb σ H1 Q) : tOrV ta tb σ H Q := h
theorem notV {ta : TE} (h : ta σ H fun x H1 => ∃ c, x = .bl c ∧ Q (.bl (!c)) H1) : tNotV ta σ H Q := h
theorem ifE {t : TT} {ta tb : TE} (h : t σ H fun c H1 => if c = true then ta σ H1 Q else tb σ H1 Q) : tIf t ta tb σ H Q := h
theorem nil {q : List V → Hp → Prop} (h : q [] H) : tNil σ H q := h
theorem cons {ta : TE} {tr : TA} {q : List V → Hp → Prop} (h : ta σ H fun x H1 => tr σ H1 fun xs H2 => q (x :: xs) H2) : tCons ta tr σ H q := h
theorem cB {r : List V → Hp → VK → Prop} {t : TA} (h : t σ H fun vs H1 => r vs H1 Q) : tCB r t σ H Q := h
theorem tup {t : TA} (h : t σ H fun xs H1 => xs.length ≤ sizeLine ∧ ∀ p, H1 p = none → Q (.ref p) (upd H1 p (.tup xs))) : tTup t σ H Q := h
theorem lst {t : TA} (h : t σ H fun xs H1 => xs.length ≤ sizeLine ∧ ∀ p, H1 p = none → Q (.ref p) (upd H1 p (.lst xs))) : tLst t σ H Q := h
theorem laid {xs : List V} {A : Addr → Prop} (e : xs.length ≤ 1000) (h : ∀ p, H p = none → A p) : xs.length ≤ sizeLine ∧ ∀ p, H p = none → A p := ⟨Nat.le_of_lt (small1000 e), h⟩
theorem call {sp : Sp} {dvs : List V} {E : XK} {t : TA} (h : t σ H fun vs H1 => sp (vs ++ dvs) H1 Q E) : tCall sp dvs E t σ H Q := h
theorem meth {C : Addr} {m : Str} {sp : Sp} {dvs : List V} {E : XK} {ta : TE} {t : TA} (h : ta σ H fun x H1 => ∃ a dx fs, x = .ref a ∧ H1 a = some (.ins C dx fs) ∧ fs.lookup m = none ∧ t σ H1 fun vs H2 => sp (x :: (vs ++ dvs)) H2 Q E) : tMeth C m sp dvs E ta t σ H Q := h
theorem meth2 {C a dx : Addr} {fs : List (Str × V)} {m : Str} {A : Prop} (e : H a = some (.ins C dx fs)) (l : fs.lookup m = none) (h : A) : ∃ a' dx fs, V.ref a = .ref a' ∧ H a' = some (.ins C dx fs) ∧ fs.lookup m = none ∧ A := ⟨a, dx, fs, rfl, e, l, h⟩
theorem make {C : Addr} {sp : Sp} {dvs : List V} {E : XK} {t : TA} (h : t σ H fun vs H1 => ∀ x dx, H1 x = none → H1 dx = none → dx ≠ x → sp (.ref x :: (vs ++ dvs)) (upd (upd H1 dx (.own x)) x (.ins C dx [])) (fun v H2 => v = .non ∧ Q (.ref x) H2) E) : tMake C sp dvs E t σ H Q := h
theorem fld {ta : TE} {f : Str} (h : ta σ H fun x H1 => ∃ a C dx fs v, x = .ref a ∧ H1 a = some (.ins C dx fs) ∧ Cls K C ∧ NoAttr K C f ∧ fs.lookup f = some v ∧ Q v H1) : tFld K ta f σ H Q := h
theorem fld2 {f : Str} {a C dx : Addr} {fs : List (Str × V)} {v : V} (e : H a = some (.ins C dx fs)) (k : Cls K C) (n : NoAttr K C f) (l : fs.lookup f = some v) (h : Q v H) :
    ∃ a' C' dx fs v, V.ref a = .ref a' ∧ H a' = some (.ins C' dx fs) ∧ Cls K C' ∧ NoAttr K C' f ∧ fs.lookup f = some v ∧ Q v H := ⟨a, C, dx, fs, v, rfl, e, k, n, l, h⟩
theorem sfld {ta tv : TE} {f : Str} (h : tv σ H fun y H1 => ta σ H1 fun x H2 => ∃ a C dx fs, x = .ref a ∧ H2 a = some (.ins C dx fs) ∧ Cls K C ∧ NoAttr K C f ∧ fs.length < 1000 ∧ D.nx σ (upd H2 a (.ins C dx (putF f y fs)))) : sFld K ta tv f D σ H := h
theorem gnil {q : L2.St → Hp → Prop} (h : q σ H) : gNil [] σ H q := ⟨rfl, h⟩
theorem gcons {t : TG} {u : TGs} {v : V} {r : List V} {q : L2.St → Hp → Prop} (h : t v σ H fun σ' H' => u r σ' H' q) : gCons t u (v :: r) σ H q := ⟨v, r, rfl, h⟩
theorem gtup {n : Nat} {t : TGs} {a : Addr} {xs : List V} {q : L2.St → Hp → Prop} (e : SqT K H a xs) (l : xs.length = n) (h : t xs σ H q) : gTup K n t (.ref a) σ H q := ⟨a, xs, rfl, e, l, h⟩
theorem fr {wi : TI} {g : TG} {tb : TS} (h : wi σ H fun J H1 => ∃ W : Nat → Nat → L2.St → Hp → Prop, (∃ m, W 0 m σ H1) ∧ ∀ i m σ H, W i m σ H →
    (J.stop i H ∧ D.nx σ H) ∨ (J.go i H ∧ ∃ N : L2.St → Hp → Prop, (∀ σ' H', N σ' H' → ∃ m', m' < m ∧ W (i + 1) m' σ' H') ∧ ∀ x H', J.yld i H x H' → g x σ H' fun σ2 H2 => tb { D with nx := N, ct := N, bk := D.nx } σ2 H2)) : tFor wi g tb D σ H := h
theorem rng1 {ta : TA} {R : It → Hp → Prop} (h : ta σ H fun vs H1 => ∃ j : Int, vs = [.int j] ∧ -(2 ^ 62) ≤ j ∧ j < 2 ^ 62 ∧ R (Itr 0 j.toNat) H1) : iRng1 ta σ H R := h
theorem prop {C : Addr} {sp : Sp} {dvs : List V} {E : XK} {ta : TE} (h : ta σ H fun x H1 => ∃ a dx fs, x = .ref a ∧ H1 a = some (.ins C dx fs) ∧ sp (.ref a :: dvs) H1 Q E) : tProp C sp dvs E ta σ H Q := h
theorem aug {i : Nat} {te : TE} {ti : TIp} {x : V} (e : σ[i]? = some (some x)) (h : te σ H fun y H1 => ti x y H1 fun z H2 => D.nx (σ.set i (some z)) H2) : tAug i te ti D σ H := ⟨x, e, h⟩
theorem ipI {f : Int → Int → Int} {i j : Int} (h : Q (.int (f i j)) H) : L2.ipI f (.int i) (.int j) H Q := ⟨i, j, rfl, rfl, h⟩
theorem ixL {a : Addr} {xs : List V} {i : Int} {v : V} (e : SqL K H a xs) (l : atI xs i = some v) (h : Q v H) : rIxL K (.ref a) (.int i) H Q := ⟨a, xs, i, v, rfl, rfl, e, l, h⟩
theorem ixT {a : Addr} {xs : List V} {i : Int} {v : V} (e : SqT K H a xs) (l : atI xs i = some v) (h : Q v H) : rIxT K (.ref a) (.int i) H Q := ⟨a, xs, i, v, rfl, rfl, e, l, h⟩
theorem setL {a : Addr} {xs : List V} {k : Int} {j : Nat} {v : V} {q : Hp → Prop} (e : H a = some (.lst xs)) (l : ixN xs.length k = some j) (h : q (upd H a (.lst (xs.set j v)))) : rSetL (.ref a) (.int k) v H q := ⟨a, xs, k, j, rfl, rfl, e, l, h⟩
theorem sub {to ti : TE} {t : TSet} {v : V} {q : L2.St → Hp → Prop} (h : to σ H fun o H1 => ti σ H1 fun i H2 => t o i v H2 fun H3 => q σ H3) : gSub to ti t v σ H q := h
theorem lenQ {a : Addr} {xs : List V} (e : SqL K H a xs ∨ SqT K H a xs) (h : Q (.int xs.length) H) : ∃ p ys, [V.ref a] = [.ref p] ∧ (SqL K H p ys ∨ SqT K H p ys) ∧ Q (.int ys.length) H := ⟨a, xs, rfl, e, h⟩
theorem absI {i : Int} (h : Q (.int (if i < 0 then -i else i)) H) : ∃ j, [V.int i] = [.int j] ∧ Q (.int (if j < 0 then -j else j)) H := ⟨i, rfl, h⟩
theorem intI {i : Int} (h : Q (.int i) H) : (∃ j, [V.int i] = [.int j] ∧ Q (.int j) H) ∨ ∃ k, [V.int i] = [.bl k] ∧ Q (.int (if k then 1 else 0)) H := .inl ⟨i, rfl, h⟩
theorem ite {c A B : Prop} [Decidable c] (h1 : c → A) (h2 : ¬ c → B) : if c then A else B := by
  by_cases h : c
  · rw [if_pos h]; exact h1 h
  · rw [if_neg h]; exact h2 h
theorem iteT {b : Bool} {A B : Prop} (e : b = true) (h : A) : if b = true then A else B := by rw [if_pos e]; exact h
theorem iteF {b : Bool} {A B : Prop} (e : b = false) (h : B) : if b = true then A else B := by rw [e]; exact h
theorem andB {c d : Bool} {t : TE} (h1 : ∀ Q' : VK, Q' (.bl d) H → t σ H Q') (h : Q (.bl (c && d)) H) : if c = true then t σ H Q else Q (.bl false) H := by
  cases c with
  | true => exact h1 Q h
  | false => exact h
theorem orB {c d : Bool} {t : TE} (h1 : ∀ Q' : VK, Q' (.bl d) H → t σ H Q') (h : Q (.bl (c || d)) H) : if c = true then Q (.bl true) H else t σ H Q := by
  cases c with
  | true => exact h
  | false => exact h1 Q h
end
theorem lput {f : Str} {v : V} {fs : List (Str × V)} {n : Nat} (h : fs.length + 1 < n) : (putF f v fs).length < n := Nat.lt_of_le_of_lt (by have := length_putF f v fs; omega) h
theorem lputs {f : Str} {v : V} {fs : List (Str × V)} {n k : Nat} (h : fs.length + (k + 1) < n) : (putF f v fs).length + k < n := Nat.lt_of_le_of_lt (by have := length_putF f v fs; omega) h
theorem ty_tup {K : PySem.W.Frag} {H : Hp} {a : Addr} {xs : List V} (e : H a = some (.tup xs)) : TyX K H (.ref a) (.type "tuple") := .base (.tup e)
theorem ty_lst {K : PySem.W.Frag} {H : Hp} {a : Addr} {xs : List V} (e : H a = some (.lst xs)) : TyX K H (.ref a) (.type "list") := .base (.lst e)
section
variable {K : PySem.W.Frag}
theorem kit_int_int : PySem.W.kitOne K (.type "int") (.type "int") = some true := kit_ty (by decide +kernel)
theorem kit_bool_int : PySem.W.kitOne K (.type "bool") (.type "int") = some true := kit_ty (by decide +kernel)
theorem kit_str_int : PySem.W.kitOne K (.type "str") (.type "int") = some false := kit_ty (by decide +kernel)
theorem kit_none_int : PySem.W.kitOne K (.type "NoneType") (.type "int") = some false := kit_ty (by decide +kernel)
theorem kit_tuple_int : PySem.W.kitOne K (.type "tuple") (.type "int") = some false := kit_ty (by decide +kernel)
theorem kit_list_int : PySem.W.kitOne K (.type "list") (.type "int") = some false := kit_ty (by decide +kernel)
theorem kit_dict_int : PySem.W.kitOne K (.type "dict") (.type "int") = some false := kit_ty (by decide +kernel)
theorem kit_int_bool : PySem.W.kitOne K (.type "int") (.type "bool") = some false := kit_ty (by decide +kernel)
theorem kit_bool_bool : PySem.W.kitOne K (.type "bool") (.type "bool") = some true := kit_ty (by decide +kernel)
theorem kit_str_bool : PySem.W.kitOne K (.type "str") (.type "bool") = some false := kit_ty (by decide +kernel)
theorem kit_str_str : PySem.W.kitOne K (.type "str") (.type "str") = some true := kit_ty (by decide +kernel)
theorem kit_int_str : PySem.W.kitOne K (.type "int") (.type "str") = some false := kit_ty (by decide +kernel)
end
end Rd


/-! ## the operators of own classes, as rules of the layer -/
namespace Own
open PySem PySem.Spec PyProof.Rows L2
section
variable {X : Cx} {pins : List (Addr × Obj)} {σ : L2.St} {H : Hp} {s : Shared}
/-- a value of the layer is never the sign of a declined operator -/
theorem not_declined {v : V} {u : Value} (r : RelV v u) : u ≠ .notImplemented := by
  intro e
  subst e
  cases v with
  | non => cases (show Value.notImplemented = Value.none from r)
  | bl b => cases (show Value.notImplemented = Value.bool b from r)
  | int i => obtain ⟨t, q⟩ := (show ∃ t, Value.notImplemented = Value.int i t from r); cases q
  | str i => obtain ⟨t, q⟩ := (show ∃ t, Value.notImplemented = Value.str i t from r); cases q
  | byt i => obtain ⟨t, q⟩ := (show ∃ t, Value.notImplemented = Value.bytes i t from r); cases q
  | flt i => obtain ⟨t, q⟩ := (show ∃ t, Value.notImplemented = Value.float i t from r); cases q
  | ref a => cases (show Value.notImplemented = Value.ref a from r)
  | ty n => cases (show Value.notImplemented = Value.type n from r)
theorem back {M : Model} {A : Around} {E : Value → Shared → Prop} {m : Sem Value} {Q : VK} (h : wpAny M A m (EP X pins σ Q) E s) : wpAny M A m (PySem.W.CmpBack (EP X pins σ Q)) E s :=
  wpAny_mono h (fun u s' q => by
    have n : u ≠ .notImplemented := by
      obtain ⟨z, H', I, r, _⟩ := q
      exact not_declined r
    cases u <;> first | exact q | exact absurd rfl n) fun _ _ e => e
/-- an instance as the library's rules ask for it -/
theorem inst {a C dx : Addr} {fs : List (Str × V)} (I : Inv X pins σ H s) (h : H a = some (.ins C dx fs)) : ∃ od, PySem.W.InstAt s.heap a (PySem.W.instObj C dx) C od := by
  obtain ⟨mA, J, _⟩ := ins_get I.hok h
  obtain ⟨od, J, _⟩ := J.look
  exact ⟨_, J⟩
/-- the type of any value, told without a step that matters -/
theorem typed {M : Model} {x : V} {u : Value} {t : Value} (I : Inv X pins σ H s) (r : RelV x u) (ty : TyX X.K H x t) : PySem.W.Looks M s.heap (typeOf u) t := by
  obtain ⟨P, Z, p, _⟩ := kit_of I r ty
  exact Z.ty M s.heap I.kIn p
end

/-- an own method behind an operator -/
structure Sp1 (K : PySem.W.Frag) (C : Addr) (m : Str) (f : Addr) : Prop where
  at_ : PySem.W.findIn K (.ref C) m = some (some (.ref f))
  fn : PySem.W.isFn K (.ref f) = true
/-- a two-place operator of an own class -/
structure Bin (K : PySem.W.Frag) (C f : Addr) (op : Operator) : Prop where
  first : PySem.W.selfFirst K C = true
  at_ : PySem.W.findIn K (.ref C) (PySem.dunder op.info.2) = some (some (.ref f))
  fn : PySem.W.isFn K (.ref f) = true
/-- .. beside a value of the built-in type T -/
structure BinT (K : PySem.W.Frag) (C f : Addr) (op : Operator) (T : String) : Prop where
  b : Bin K C f op
  r : ∃ rc, PySem.W.findIn K (.ref C) (dunderR op.info.2) = some rc ∧ (rc = none ∨ ∃ g : Addr, rc = some (.ref g))
  l1 : ∃ fo, PySem.W.findIn K (.type T) (PySem.dunder op.info.2) = some fo
  l2 : ∃ ro, PySem.W.findIn K (.type T) (dunderR op.info.2) = some ro
  sub : PySem.W.subIn K (.type T) (.ref C) = some false

def rSame (C : Addr) (sp : Sp) (E : XK) : R2 := fun x y H Q => ∃ a b dx dy fs gs, x = .ref a ∧ y = .ref b ∧ H a = some (.ins C dx fs) ∧ H b = some (.ins C dy gs) ∧ sp [.ref a, .ref b] H Q E
def rLeft (C : Addr) (T : String) (sp : Sp) (E : XK) : R2 := fun x y H Q => ∃ a dx fs, x = .ref a ∧ H a = some (.ins C dx fs) ∧ (∀ u, RelV y u → typeOf u = pure (.type T)) ∧ sp [.ref a, y] H Q E
def rCmp (K : PySem.W.Frag) (C : Addr) (sp : Sp) (E : XK) : R2 := fun x y H Q => ∃ a dx fs t, x = .ref a ∧ H a = some (.ins C dx fs) ∧ TyX K H y t ∧ PySem.W.notFirst K C t = true ∧ sp [.ref a, y] H Q E
def rOne (C : Addr) (sp : Sp) (E : XK) : V → Hp → VK → Prop := fun x H Q => ∃ a dx fs, x = .ref a ∧ H a = some (.ins C dx fs) ∧ sp [.ref a] H Q E

section
variable {X : Cx} {CX : CXT} {k : Nat} {f C : Addr} {fd : FuncData} {ps : List Str} {sp : Sp} {E : XK} {op : Operator} {cop : CmpOp} {T : String}
theorem run2 {pins : List (Addr × Obj)} {σ : L2.St} {H : Hp} {s : Shared} {Q : VK} {x y : V} {u v : Value} (F : FnOk X.prog X.w X.K X.mg X.base CX k f fd ps sp) (hr : Room k X.A) (hb : Binds X.K fd ps []) (hx : Passes CX X E)
    (I : Inv X pins σ H s) (rx : RelV x u) (ry : RelV y v) (h : sp [x, y] H Q E) : wpAny (model X.prog X.w) X.A (call (.ref f) [u, v]) (EP X pins σ Q) X.xe s :=
  run_fn (us := [u, v]) (vs := [x, y]) F hr hb .nil hx I (.cons rx (.cons ry .nil)) h
theorem opS (F : FnOk X.prog X.w X.K X.mg X.base CX k f fd ps sp) (hr : Room k X.A) (B : Bin X.K C f op) (hb : Binds X.K fd ps []) (hx : Passes CX X E) : OpR X (binaryOp op) (rSame C sp E) := by
  rintro pins s σ H x y u v Q I rx ry ⟨a, b, dx, dy, fs, gs, rfl, rfl, ha, hb', q⟩
  cases rx
  cases ry
  obtain ⟨od, J⟩ := inst I ha
  obtain ⟨od', J'⟩ := inst I hb'
  obtain ⟨m, hF⟩ := I.fr
  exact PySem.W.binop_K hF I.ok.mod.kin J J'.type B.first B.at_ B.fn (back (run2 (x := .ref a) (y := .ref b) F hr hb hx I rfl rfl q))
theorem opT (F : FnOk X.prog X.w X.K X.mg X.base CX k f fd ps sp) (hr : Room k X.A) (B : BinT X.K C f op T) (hb : Binds X.K fd ps []) (hx : Passes CX X E) : OpR X (binaryOp op) (rLeft C T sp E) := by
  rintro pins s σ H x y u v Q I rx ry ⟨a, dx, fs, rfl, ha, ty, q⟩
  cases rx
  obtain ⟨od, J⟩ := inst I ha
  obtain ⟨m, hF⟩ := I.fr
  obtain ⟨⟨b1, b2, b3⟩, ⟨rc, r1, r2⟩, ⟨fo, l1⟩, ⟨ro, l2⟩, sb⟩ := B
  exact PySem.W.ksp_binT hF I.ok.mod.kin J (ty _ ry) b1 b2 b3 r1 r2 l1 l2 sb (back (run2 (x := .ref a) F hr hb hx I rfl ry q))
theorem iopT (F : FnOk X.prog X.w X.K X.mg X.base CX k f fd ps sp) (hr : Room k X.A) (h1 : PySem.W.selfFirst X.K C = true) (h2 : Sp1 X.K C (dunderI op.info.2) f) (hb : Binds X.K fd ps []) (hx : Passes CX X E) :
    OpR X (inplaceOp op) (fun x y H Q => ∃ a dx fs, x = .ref a ∧ H a = some (.ins C dx fs) ∧ sp [.ref a, y] H Q E) := by
  rintro pins s σ H x y u v Q I rx ry ⟨a, dx, fs, rfl, ha, q⟩
  cases rx
  obtain ⟨od, J⟩ := inst I ha
  obtain ⟨m, hF⟩ := I.fr
  exact PySem.W.ksp_inplace hF I.ok.mod.kin J h1 h2.at_ h2.fn (back (run2 (x := .ref a) F hr hb hx I rfl ry q))
theorem neg (F : FnOk X.prog X.w X.K X.mg X.base CX k f fd ps sp) (hr : Room k X.A) (B : Sp1 X.K C "__neg__" f) (hb : Binds X.K fd ps []) (hx : Passes CX X E) : UnR X (unaryOp .USub) (rOne C sp E) := by
  rintro pins s σ H x u Q I rx ⟨a, dx, fs, rfl, ha, q⟩
  cases rx
  obtain ⟨od, J⟩ := inst I ha
  obtain ⟨m, hF⟩ := I.fr
  exact PySem.W.ksp_neg hF I.ok.mod.kin J B.at_ B.fn (run_fn (us := [.ref a]) (vs := [.ref a]) F hr hb .nil hx I (.cons rfl .nil) q)
theorem cmp (F : FnOk X.prog X.w X.K X.mg X.base CX k f fd ps sp) (hr : Room k X.A) (B : Sp1 X.K C (cmpInfo cop).2.1 f) (hb : Binds X.K fd ps []) (hx : Passes CX X E)
    (ho : ∀ a b, compareOp cop a b = richCompare cop a b := by intro _ _; rfl) : OpR X (compareOp cop) (rCmp X.K C sp E) := by
  rintro pins s σ H x y u v Q I rx ry ⟨a, dx, fs, t, rfl, ha, ty, nf, q⟩
  cases rx
  obtain ⟨od, J⟩ := inst I ha
  obtain ⟨m, hF⟩ := I.fr
  rw [ho]
  exact PySem.W.cmp_K hr.units0 hF I.ok.mod.kin J (typed I ry ty) nf B.at_ B.fn (back (run2 (x := .ref a) F hr hb hx I rfl ry q))
/-- o[i] by the own __getitem__ -/
theorem item (F : FnOk X.prog X.w X.K X.mg X.base CX k f fd ps sp) (hr : Room k X.A) (B : Sp1 X.K C "__getitem__" f) (hq : PySem.W.noSeq X.K C = true) (hb : Binds X.K fd ps []) (hx : Passes CX X E) :
    OpR X getItem (fun x y H Q => ∃ a dx fs, x = .ref a ∧ H a = some (.ins C dx fs) ∧ sp [.ref a, y] H Q E) := by
  rintro pins s σ H x y u v Q I rx ry ⟨a, dx, fs, rfl, ha, q⟩
  cases rx
  obtain ⟨od, J⟩ := inst I ha
  obtain ⟨m, hF⟩ := I.fr
  exact PySem.W.getItem_K hF I.ok.mod.kin J hq B.at_ B.fn (run2 (x := .ref a) F hr hb hx I rfl ry q)
/-- x in o by the own __contains__, which gives a bool -/
theorem isin (F : FnOk X.prog X.w X.K X.mg X.base CX k f fd ps sp) (hr : Room k X.A) (B : Sp1 X.K C "__contains__" f) (hb : Binds X.K fd ps []) (hx : Passes CX X E) :
    OpR X (compareOp .In) (fun x y H Q => ∃ a dx fs, y = .ref a ∧ H a = some (.ins C dx fs) ∧ sp [.ref a, x] H (fun v H' => ∃ b, v = .bl b ∧ Q (.bl b) H') E) := by
  rintro pins s σ H x y u v Q I rx ry ⟨a, dx, fs, rfl, ha, q⟩
  cases ry
  obtain ⟨od, J⟩ := inst I ha
  obtain ⟨m, hF⟩ := I.fr
  refine PySem.W.in_K hF I.ok.mod.kin J B.at_ B.fn (wpAny_mono (run2 (x := .ref a) F hr hb hx I rfl rx q) (fun r s' hq => ?_) fun _ _ e => e)
  obtain ⟨z, H', I', rz, b, rfl, q'⟩ := hq
  cases rz
  exact wpAny_truthy_bool ⟨.bl b, H', I', rfl, q'⟩
/-- truth by the own __bool__ -/
theorem truth (F : FnOk X.prog X.w X.K X.mg X.base CX k f fd ps sp) (hr : Room k X.A) (B : Sp1 X.K C "__bool__" f) (hb : Binds X.K fd ps []) (hx : Passes CX X E) :
    TruR X (fun x H Q => ∃ a dx fs, x = .ref a ∧ H a = some (.ins C dx fs) ∧ sp [.ref a] H (fun v H' => ∃ b, v = .bl b ∧ Q b H') E) := by
  rintro pins s σ H x u Q I rx ⟨a, dx, fs, rfl, ha, q⟩
  cases rx
  obtain ⟨od, J⟩ := inst I ha
  obtain ⟨m, hF⟩ := I.fr
  refine PySem.W.truthy_K hF I.ok.mod.kin J B.at_ B.fn (wpAny_mono (run_fn (us := [.ref a]) (vs := [.ref a]) F hr hb .nil hx I (.cons rfl .nil) q) (fun r s' hq => ?_) fun _ _ e => e)
  obtain ⟨z, H', I', rz, b, rfl, q'⟩ := hq
  cases rz
  exact ⟨H', I', q'⟩
end
end Own
/-! ## int op own: the reflected operator; != by the inherited rule over the own ==; len; a call of an instance -/
namespace Own
open PySem PySem.Spec PyProof.Rows
section
variable {prog : Program} {w : World} {A : Around} {E : Value → Shared → Prop} {s : Shared} {K : PySem.W.Frag} {x C dx f : Addr} {od : Option Obj}
theorem decl_add {i : Int} {t : Tok} {Q : Shared → Prop} (h : s.heap.get? x = some (PySem.W.instObj C dx)) (hq : Q s) :
    wpAny (model prog w) A (Builtin.«int.__add__» ⟨[.int i t, .ref x], []⟩) (fun fin s' => ∃ v, fin = .done (.ret v) ∧ v = .notImplemented ∧ Q s') E s := by
  obtain ⟨hp, g, d, tk, os⟩ := s
  wp_walk using wpAny_load h
  exact ⟨_, rfl, rfl, hq⟩
theorem decl_sub {i : Int} {t : Tok} {Q : Shared → Prop} (h : s.heap.get? x = some (PySem.W.instObj C dx)) (hq : Q s) :
    wpAny (model prog w) A (Builtin.«int.__sub__» ⟨[.int i t, .ref x], []⟩) (fun fin s' => ∃ v, fin = .done (.ret v) ∧ v = .notImplemented ∧ Q s') E s := by
  obtain ⟨hp, g, d, tk, os⟩ := s
  wp_walk using wpAny_load h
  exact ⟨_, rfl, rfl, hq⟩
theorem decl_mul {i : Int} {t : Tok} {Q : Shared → Prop} (h : s.heap.get? x = some (PySem.W.instObj C dx)) (hq : Q s) :
    wpAny (model prog w) A (Builtin.«int.__mul__» ⟨[.int i t, .ref x], []⟩) (fun fin s' => ∃ v, fin = .done (.ret v) ∧ v = .notImplemented ∧ Q s') E s := by
  obtain ⟨hp, g, d, tk, os⟩ := s
  wp_walk using wpAny_load h
  exact ⟨_, rfl, rfl, hq⟩
end
end Own
namespace Own
open PySem PySem.Spec PyProof.Rows
section
variable {prog : Program} {w : World} {A : Around} {E : Value → Shared → Prop} {s : Shared} {K : PySem.W.Frag} {x C dx f f0 : Addr} {od : Option Obj} {op : Operator} {id : String}
/-- an int declines an operator beside an instance, then the instance's reflected one is asked -/
theorem binR {i : Int} {t : Tok} {Q : Value → Shared → Prop} (KX : K.In s.heap) (I : PySem.W.InstAt s.heap x (PySem.W.instObj C dx) C od) (hc : PySem.W.selfFirst K C = true)
    (h0 : PySem.W.findIn K (.ref C) (PySem.dunder op.info.2) = some (some (.ref f0))) (h1 : PySem.W.findIn K (.ref C) (dunderR op.info.2) = some (some (.ref f))) (hf : PySem.W.isFn K (.ref f) = true)
    (hsub : PySem.W.subIn K (.ref C) (.type "int") = some false) (hfill : fillsNumberSlot (.type "int") op.info.2 = pure true) (slot : Slot "int" (PySem.dunder op.info.2) id)
    (decl : wpAny (model prog w) A (call (.builtin id) [.int i t, .ref x]) (fun v s' => v = .notImplemented ∧ s'.heap = s.heap ∧ s'.gens = s.gens ∧ s'.drawn = s.drawn ∧ s'.os = s.os ∧ s'.toks = s.toks) E s)
    (h : wpAny (model prog w) A (call (.ref f) [.ref x, .int i t]) (PySem.W.CmpBack Q) E s) : wpAny (model prog w) A (binaryOp op (.int i t) (.ref x)) Q E s := by
  obtain ⟨cd, rest, hcd, hm⟩ := PySem.W.ksp_first hc
  rcases hi : op.info with ⟨sym, nm⟩
  rw [hi] at h0 h1 hfill slot
  dsimp only at h0 h1 hfill slot
  have two := PySem.W.ksp_try KX I h1 hf h
  obtain ⟨hh, g, d, tt, os⟩ := s
  have L1 : PySem.W.Looks (model prog w) hh (typeOf (.ref x)) (.ref C) := I.type
  have L3 : PySem.W.Looks (model prog w) hh (fillsNumberSlot (.ref C) nm) true := PySem.W.fills_K KX hcd hm h0
  have L5 : PySem.W.Looks (model prog w) hh (isSubtype (.ref C) (.type "int")) false := PySem.W.looks_subIn KX hsub
  have hne : (Value.type "int" == Value.ref C) = false := Bool.eq_false_iff.mpr fun q => by cases beq_iff_eq.mp q
  have hpy : numberSlotInPython (.type "int") nm = pure false := rfl
  have one : wpAny (model prog w) A (tryMethod (.int i t) (PySem.dunder nm) (.ref x)) (fun r s' => r = none ∧ s'.heap = hh ∧ s'.gens = g ∧ s'.drawn = d ∧ s'.os = os ∧ s'.toks = tt) E ⟨hh, g, d, tt, os⟩ :=
    wpAny_tryMethod_declines (T := "int") (typeIs_int _ i t) slot (wpAny_mono decl (fun v s' q => ⟨q.1, rfl, q.2⟩) fun _ _ e => e)
  simp only [binaryOp, hi]
  refine wpAny_holding (wpAny_bind ?_)
  unfold binaryOp1
  refine wpAny_bind (wpAny_typeOf (typeIs_int _ i t) (wpAny_bind (L1.at (wpAny_bind (wpAny_of_eq hfill ?_)))))
  simp only [hne, Bool.false_eq_true, if_false]
  refine wpAny_bind (L3.at ?_)
  simp only [Bool.and_self, if_true]
  refine wpAny_bind (L5.at ?_)
  simp only [Bool.false_eq_true, if_false, pure_bind, Bool.not_false, Bool.and_self, if_true, hpy]
  refine wpAny_bind (wpAny_mono one (fun r s' q => ?_) fun _ _ e => e)
  obtain ⟨h1, g1, d1, t1, o1⟩ := s'
  obtain ⟨rfl, q1, q2, q3, q4, q5⟩ := q
  dsimp only at q1 q2 q3 q4 q5
  subst q1 q2 q3 q4 q5
  dsimp only
  refine wpAny_bind (wpAny_mono two (fun r s' q => ?_) fun _ _ e => e)
  obtain ⟨v, rfl, q⟩ := q
  exact wpAny_bind (wpAny_rule (wpAny_pure (wpAny_pure q)))
end
end Own
namespace Own
open PySem PySem.Spec PyProof.Rows
theorem slot_ne : Slot "object" "__ne__" "object.__ne__" :=
  .of (T := "object") (name := "__ne__") (owner := "object") (n := "__ne__") (by rw [typeLookup_type, builtinLookup_eq_fast]; kernel_rfl) (by decide +kernel) (by decide +kernel) (by decide +kernel)
    (.inl (by decide +kernel)) (by rw [isSubtype_type]; kernel_rfl)
section
variable {prog : Program} {w : World} {A : Around} {E : Value → Shared → Prop} {s : Shared} {K : PySem.W.Frag} {x C dx f : Addr} {od : Option Obj} {b tb : Value}
theorem check_ne {M : Model} {Q : Unit → Shared → Prop} (I : PySem.W.InstAt s.heap x (PySem.W.instObj C dx) C od) (KX : K.In s.heap) (ho : PySem.W.subIn K (.ref C) (.type "object") = some true) (h : Q () s) :
    wpAny M A (checkBuiltinCall "object.__ne__" ⟨[.ref x, b], []⟩) Q E s := by
  have ha : argsOk "object.__ne__" ⟨[.ref x, b], []⟩ := by unfold argsOk; kernel_rfl
  have L : PySem.W.Looks M s.heap (isSubtype (.ref C) (.type "object")) true := PySem.W.looks_subIn KX ho
  have at_ := I.at_
  obtain ⟨hp, g, d, t, os⟩ := s
  simp only [checkBuiltinCall, F.cmpKind_ne, F.cmpSplit_ne]
  refine wpAny_bind ?_
  unfold isInstance
  repeat (first | (with_reducible refine wpAny_loadPart_at at_ ?_) | (with_reducible refine L.at ?_) | wp_step)
  exact h
/-- != of an instance whose class has an own == alone -/
theorem ne_K {Q : Value → Shared → Prop} (hu : A.units + 1 < cLine) (KX : K.In s.heap) (I : PySem.W.InstAt s.heap x (PySem.W.instObj C dx) C od) (hb : PySem.W.Looks (model prog w) s.heap (typeOf b) tb) (hn : PySem.W.notFirst K C tb = true)
    (h0 : PySem.W.findIn K (.ref C) "__ne__" = some (some (.builtin "object.__ne__"))) (h1 : PySem.W.findIn K (.ref C) "__eq__" = some (some (.ref f))) (hf : PySem.W.isFn K (.ref f) = true) (ho : PySem.W.subIn K (.ref C) (.type "object") = some true)
    (h : wpAny (model prog w) A.in1 (call (.ref f) [.ref x, b]) (fun v s' => ∃ c, v = .bool c ∧ Q (.bool (!c)) s') E s) : wpAny (model prog w) A (richCompare .NotEq (.ref x) b) Q E s := by
  have eqc : wpAny (model prog w) A.in1 (callSpecialIfBound? (.ref x) (Str.ofString "__eq__") [b]) (fun r s' => ∃ c, r = some (.bool c) ∧ Q (.bool (!c)) s') E s :=
    PySem.W.ifBound_K KX I h1 hf (wpAny_mono h (fun v s' ⟨c, e, q⟩ => ⟨c, by rw [e], q⟩) fun _ _ e => e)
  have body : wpAny (model prog w) A.in1 (Builtin.«object.__ne__» ⟨[.ref x, b], []⟩) (fun fin s' => ∃ v, fin = .done (.ret v) ∧ ∃ c, v = .bool (!c) ∧ Q (.bool (!c)) s') E s := by
    obtain ⟨hp, g, d, t, os⟩ := s
    unfold Builtin.«object.__ne__»
    repeat (first
      | with_reducible refine wpAny_cRoomFor hu ?_
      | (refine wpAny_bind (m := callSpecialIfBound? (.ref x) (Str.ofString "__eq__") [b]) (wpAny_mono eqc (fun r s' hr => ?_) fun _ _ e => e))
      | wp_step)
    obtain ⟨c, rfl, q⟩ := hr
    repeat (first
      | exact ⟨_, rfl, c, rfl, q⟩
      | exact wpAny_pure ⟨_, rfl, c, rfl, q⟩
      | (refine wpAny_bind (m := truthy (.bool _)) (wpAny_truthy_bool ?_))
      | wp_step)
  have one : wpAny (model prog w) A (tryCompare (.ref x) (Str.ofString "__ne__") b) (fun r s' => ∃ c, r = some (.bool (!c)) ∧ Q (.bool (!c)) s') E s := by
    unfold tryCompare
    refine wpAny_bind ?_
    simp only [callSpecialIfBound?, bindSpecialIfBound?]
    refine wpAny_holding (wpAny_bind (wpAny_bind (wpAny_bind (I.type.here ((PySem.W.looks_findIn KX h0).here ?_)))))
    have last : wpAny (model prog w) A (call (.builtin "object.__ne__") ([.ref x] ++ [b]) >>= fun v => pure (some v)) (fun a s' => wpAny (model prog w) A (match a with | some .notImplemented | none => pure none | some v => pure (some v)) (fun r s' => ∃ c, r = some (.bool (!c)) ∧ Q (.bool (!c)) s') E s') E s := by
      refine wpAny_bind (wpAny_call (codeAny_call_builtin slot_ne.plain F.cmpEntry_ne (check_ne I KX ho (wpAny_mono body (fun fin s' hv => ?_) fun _ _ e => e))))
      obtain ⟨v, rfl, c, rfl, q⟩ := hv
      exact wpAny_pure (wpAny_pure ⟨c, rfl, q⟩)
    refine wpAny_bind (wpAny_askSetting (wpAny_ite ?_))
    simp only [slot_ne.bind]
    split
    · exact wpAny_bind (wpAny_pure (wpAny_pure last))
    · exact wpAny_tryCatch (wpAny_bind (wpAny_pure (wpAny_pure last)))
  unfold richCompare
  simp only [PySem.oneThing_ref]
  refine wpAny_holding (wpAny_bind (wpAny_cRoomFor (Nat.lt_of_succ_lt hu) ?_))
  rw [cmpInfo_NotEq]
  dsimp only
  refine wpAny_bind (I.type.here (wpAny_bind (hb.here ?_)))
  have tail : wpAny (model prog w) A (tryCompare (.ref x) (Str.ofString "__ne__") b) (fun r s' => ∃ v, r = some v ∧ Q v s') E s :=
    wpAny_mono one (fun r s' ⟨c, e, q⟩ => ⟨_, e, q⟩) fun _ _ e => e
  split
  · rename_i q
    have e : PySem.W.subIn K tb (.ref C) = some false := by
      rcases Bool.or_eq_true_iff.mp hn with e | e
      · rw [beq_iff_eq.mp e] at q; simp at q
      · exact beq_iff_eq.mp e
    refine wpAny_bind ((PySem.W.looks_subIn KX e).here ?_)
    simp only [Bool.false_eq_true, if_false]
    refine wpAny_bind (wpAny_mono tail (fun r s' z => ?_) fun _ _ e => e)
    obtain ⟨v, rfl, hq⟩ := z
    exact wpAny_pure hq
  · refine wpAny_bind (wpAny_pure ?_)
    simp only [Bool.false_eq_true, if_false]
    refine wpAny_bind (wpAny_mono tail (fun r s' z => ?_) fun _ _ e => e)
    obtain ⟨v, rfl, hq⟩ := z
    exact wpAny_pure hq
end
end Own
namespace Own
open PySem PySem.Spec PyProof.Rows L2
section
variable {X : Cx} {CX : CXT} {k : Nat} {f f0 C : Addr} {fd : FuncData} {ps : List Str} {sp : Sp} {E : XK} {op : Operator}
/-- a call one step further in -/
theorem runIn {pins : List (Addr × Obj)} {σ : L2.St} {H : Hp} {s : Shared} {Q : VK} {us : List Value} {vs : List V} (F : FnOk X.prog X.w X.K X.mg X.base CX k f fd ps sp) (hr : Room (k + 1) X.A) (hb : Binds X.K fd ps []) (hx : Passes CX X E)
    (I : Inv X pins σ H s) (r : Vals vs us) (h : sp vs H Q E) : wpAny (model X.prog X.w) X.A.in1 (PySem.call (.ref f) us) (EP X pins σ Q) X.xe s := by
  have hl : us.length = ps.length := by rw [← r.length]; exact F.len _ _ _ _ h
  have hb' := hb s us I.kIn (by simpa using hl)
  rw [List.append_nil] at hb'
  refine wpAny_call (codeAny_mono (F.run X.A.in1 X.stack s H ⟨us, []⟩ us vs Q E hr.in1 I.env0.in1 hb' r h) fun r s' hq => ?_)
  cases r with
  | error e => exact hx pins σ H s e s' I hq
  | ok fl =>
    cases fl with
    | ret u => exact I.after hq
    | next => exact False.elim hq
    | brk => exact False.elim hq
    | cont => exact False.elim hq
structure BinR (K : PySem.W.Frag) (C f : Addr) (op : Operator) : Prop where
  first : PySem.W.selfFirst K C = true
  l : ∃ f0 : Addr, PySem.W.findIn K (.ref C) (PySem.dunder op.info.2) = some (some (.ref f0))
  at_ : PySem.W.findIn K (.ref C) (dunderR op.info.2) = some (some (.ref f))
  fn : PySem.W.isFn K (.ref f) = true
  sub : PySem.W.subIn K (.ref C) (.type "int") = some false
def rRight (C : Addr) (sp : Sp) (E : XK) : R2 := fun x y H Q => ∃ i a dx fs, x = .int i ∧ y = .ref a ∧ H a = some (.ins C dx fs) ∧ sp [.ref a, .int i] H Q E
theorem opR_of {id : String} {B : Builtin} (hfill : fillsNumberSlot (.type "int") op.info.2 = pure true) (slot : Slot "int" (PySem.dunder op.info.2) id) (entry : entryFor table id = some B) (args : ∀ a b : Value, argsOk id ⟨[a, b], []⟩)
    (decl : ∀ {prog : Program} {w : World} {A : Around} {E : Value → Shared → Prop} {s : Shared} {x C dx : Addr} {i : Int} {t : Tok} {Q : Shared → Prop}, s.heap.get? x = some (PySem.W.instObj C dx) → Q s →
      wpAny (model prog w) A (B ⟨[.int i t, .ref x], []⟩) (fun fin s' => ∃ v, fin = .done (.ret v) ∧ v = .notImplemented ∧ Q s') E s)
    (F : FnOk X.prog X.w X.K X.mg X.base CX k f fd ps sp) (hr : Room k X.A) (Z : BinR X.K C f op) (hb : Binds X.K fd ps []) (hx : Passes CX X E) : OpR X (binaryOp op) (rRight C sp E) := by
  rintro pins s σ H x y u v Q I rx ry ⟨i, a, dx, fs, rfl, rfl, ha, q⟩
  obtain ⟨t, rfl⟩ := (show ∃ t, u = Value.int i t from rx)
  cases ry
  obtain ⟨od, J⟩ := inst I ha
  obtain ⟨z1, ⟨f0, z2⟩, z3, z4, z5⟩ := Z
  exact binR I.kIn J z1 z2 z3 z4 z5 hfill slot (wpAny_call_entry slot (typeIs_int s i t) entry (wpAny_mono (decl (Q := fun s' => s'.heap = s.heap ∧ s'.gens = s.gens ∧ s'.drawn = s.drawn ∧ s'.os = s.os ∧ s'.toks = s.toks) J.at_ ⟨rfl, rfl, rfl, rfl, rfl⟩) (fun fin s' ⟨v, e, q⟩ => ⟨v, e, q⟩) fun _ _ e => e) (args _ _))
    (back (run2 (x := .ref a) (y := .int i) F hr hb hx I rfl ⟨t, rfl⟩ q))
theorem opRadd (F : FnOk X.prog X.w X.K X.mg X.base CX k f fd ps sp) (hr : Room k X.A) (Z : BinR X.K C f .Add) (hb : Binds X.K fd ps []) (hx : Passes CX X E) : OpR X (binaryOp .Add) (rRight C sp E) :=
  opR_of PySem.F.fills_int_add PySem.F.slot_int_add PySem.F.entry_int_add PySem.F.args_int_add_2 decl_add F hr Z hb hx
theorem opRsub (F : FnOk X.prog X.w X.K X.mg X.base CX k f fd ps sp) (hr : Room k X.A) (Z : BinR X.K C f .Sub) (hb : Binds X.K fd ps []) (hx : Passes CX X E) : OpR X (binaryOp .Sub) (rRight C sp E) :=
  opR_of PySem.F.fills_int_sub PySem.F.slot_int_sub PySem.F.entry_int_sub PySem.F.args_int_sub_2 decl_sub F hr Z hb hx
theorem opRmul (F : FnOk X.prog X.w X.K X.mg X.base CX k f fd ps sp) (hr : Room k X.A) (Z : BinR X.K C f .Mult) (hb : Binds X.K fd ps []) (hx : Passes CX X E) : OpR X (binaryOp .Mult) (rRight C sp E) :=
  opR_of PySem.F.fills_int_mul PySem.F.slot_int_mul PySem.F.entry_int_mul PySem.F.args_int_mul_2 decl_mul F hr Z hb hx
structure Ne (K : PySem.W.Frag) (C f : Addr) : Prop where
  ne : PySem.W.findIn K (.ref C) "__ne__" = some (some (.builtin "object.__ne__"))
  eq : PySem.W.findIn K (.ref C) "__eq__" = some (some (.ref f))
  fn : PySem.W.isFn K (.ref f) = true
  ob : PySem.W.subIn K (.ref C) (.type "object") = some true
def rNeOwn (K : PySem.W.Frag) (C : Addr) (sp : Sp) (E : XK) : R2 := fun x y H Q => ∃ a dx fs t, x = .ref a ∧ H a = some (.ins C dx fs) ∧ TyX K H y t ∧ PySem.W.notFirst K C t = true ∧ sp [.ref a, y] H (fun v H' => ∃ b, v = .bl b ∧ Q (.bl (!b)) H') E
theorem ne (F : FnOk X.prog X.w X.K X.mg X.base CX k f fd ps sp) (hr : Room (k + 1) X.A) (Z : Ne X.K C f) (hb : Binds X.K fd ps []) (hx : Passes CX X E) : OpR X (compareOp .NotEq) (rNeOwn X.K C sp E) := by
  rintro pins s σ H x y u v Q I rx ry ⟨a, dx, fs, t, rfl, ha, ty, nf, q⟩
  cases rx
  obtain ⟨od, J⟩ := inst I ha
  have hu : X.A.units + 1 < cLine := hu_of hr
  exact ne_K hu I.kIn J (typed I ry ty) nf Z.ne Z.eq Z.fn Z.ob (wpAny_mono (runIn (us := [.ref a, v]) (vs := [.ref a, y]) F hr hb hx I (.cons rfl (.cons ry .nil)) q) (fun r s' hq => by
    obtain ⟨z, H', I', rz, b, rfl, q'⟩ := hq
    cases rz
    exact ⟨b, rfl, .bl (!b), H', I', rfl, q'⟩) fun _ _ e => e)
/-- len(o) by the own __len__ -/
theorem len (F : FnOk X.prog X.w X.K X.mg X.base CX k f fd ps sp) (hr : Room (k + 1) X.A) (B : Sp1 X.K C "__len__" f) (hb : Binds X.K fd ps []) (hx : Passes CX X E) :
    CallR X (.builtin "len") (fun xs H Q => ∃ a dx fs, xs = [.ref a] ∧ H a = some (.ins C dx fs) ∧ sp [.ref a] H (fun v H' => ∃ n, v = .int n ∧ 0 ≤ n ∧ n < 2 ^ 63 ∧ Q (.int n) H') E) := by
  rintro pins s σ H xs us Q I rs ⟨a, dx, fs, rfl, ha, q⟩
  cases rs with
  | cons r rest =>
    cases rest
    cases r
    obtain ⟨od, J⟩ := inst I ha
    obtain ⟨m, hF⟩ := I.fr
    refine PySem.W.len_K hF I.ok.mod.kin J B.at_ B.fn (wpAny_mono (runIn (us := [.ref a]) (vs := [.ref a]) F hr hb hx I (.cons rfl .nil) q) (fun r s' hq => ?_) fun _ _ e => e)
    obtain ⟨z, H', I', rz, n, rfl, h0, h1, q'⟩ := hq
    obtain ⟨t, rfl⟩ := (show ∃ t, r = Value.int n t from rz)
    exact ⟨⟨h0, h1⟩, .int n, H', I'.tok _, ⟨_, rfl⟩, q'⟩
end
theorem fnR_of {P : Program} {w : World} {K : PySem.W.Frag} {mg : Str → Option Value} {base : Heap} {CX : CXT} {k : Nat} {f : Addr} {fd : FuncData} {ps : List Str} {sp : Sp} (F : FnOk P w K mg base CX k f fd ps sp) (hb : Binds K fd ps []) : FnR P w K mg base CX k f sp := by
  intro A outer s H us vs Q E hr e0 r h
  have KX : K.In s.heap := e0.mod.kin.keeps fun b o e => (e0.bs b o e).1
  have hl : us.length = ps.length := by rw [← r.length]; exact F.len _ _ _ _ h
  have hb' := hb s us KX (by simpa using hl)
  rw [List.append_nil] at hb'
  exact F.run A outer s H ⟨us, []⟩ us vs Q E hr e0 hb' r h
def rIop (C : Addr) (sp : Sp) (E : XK) : R2 := fun x y H Q => ∃ a dx fs, x = .ref a ∧ H a = some (.ins C dx fs) ∧ sp [.ref a, y] H Q E
theorem pip {X : Cx} {C : Addr} {sp : Sp} {E : XK} {op : Operator} (h : OpR X (inplaceOp op) (fun x y H Q => ∃ a dx fs, x = .ref a ∧ H a = some (.ins C dx fs) ∧ sp [.ref a, y] H Q E)) : PIp X op (rIop C sp E) :=
  fun pins s σ H x y v u Q I rx ry q => h pins s σ H x y v u Q I rx ry q
theorem iop2 {H : Hp} {Q : VK} {C a dx : Addr} {sp : Sp} {E : XK} {fs : List (Str × V)} {y : V} (ha : H a = some (.ins C dx fs)) (h : sp [.ref a, y] H Q E) : rIop C sp E (.ref a) y H Q := ⟨a, dx, fs, rfl, ha, h⟩
/-- f(e, ..), f an expression that gives an instance of C: the reading speaks of the heap alone -/
def tCallI (C : Addr) (sp : Sp) (E : XK) (tf : TE) (t : TA) : TE := fun σ H Q => tf σ H fun y H1 => ∃ a, y = V.ref a ∧ t σ H1 fun vs H2 => (∃ dx fs, H2 a = some (.ins C dx fs)) ∧ sp (V.ref a :: vs) H2 Q E
theorem pe_callI {X : Cx} {CX : CXT} {k : Nat} {g C : Addr} {sp : Sp} {E : XK} {fe e : Expr} {es : List Expr} {tf : TE} {t : TA} {pos : Pos} (hf : PE X fe tf) (c : StX.CallO X.K C g) (F : FnR X.prog X.w X.K X.mg X.base CX k g sp) (hr : Room k X.A) (hx : Passes CX X E) (ha : PA X (e :: es) t)
    (ht : eval (.Call fe (e :: es) [] pos) X.env = (do callWith pos (← eval fe X.env) [] (backTo pos (starEach (e :: es) X.env)) (backToKw pos (keywordEach [] X.env))) := by rfl)
    (he : starEach (e :: es) X.env = (false, eval e X.env) :: starEach es X.env := by rfl) (hpl : (backTo pos (starEach es X.env)).any (·.1) = false := by rfl) : PE X (.Call fe (e :: es) [] pos) (tCallI C sp E tf t) := by
  refine ⟨fun pins s σ H Q I h => Call_ (thn (hf.run pins s σ H _ I h) fun u s1 z => ?_) ht⟩
  obtain ⟨y, H1, I1, ry, a, rfl, q⟩ := z
  cases ry
  refine StX.callO_with (thn (ha.run pos pins s1 σ H1 _ I1 q) fun us s2 z2 => ?_) he hpl
  obtain ⟨vs, H2, I2, r, hi, q2⟩ := z2
  obtain ⟨od, J⟩ : ∃ od, PySem.W.InstAt s2.heap a (PySem.W.instObj C hi.choose) C od := inst I2 hi.choose_spec.choose_spec
  exact ⟨⟨C, _, od, J, rfl⟩, StX.run_callO c F hr hx I2 (.inr hi) r q2⟩
section
variable {σ : L2.St} {H : Hp} {Q : VK} {C : Addr} {sp : Sp} {E : XK}
theorem opS2 {a b dx dy : Addr} {fs gs : List (Str × V)} (ha : H a = some (.ins C dx fs)) (hb : H b = some (.ins C dy gs)) (h : sp [.ref a, .ref b] H Q E) : rSame C sp E (.ref a) (.ref b) H Q := ⟨a, b, dx, dy, fs, gs, rfl, rfl, ha, hb, h⟩
theorem opT2 {a dx : Addr} {fs : List (Str × V)} {T : String} {y : V} (ha : H a = some (.ins C dx fs)) (ty : ∀ u, RelV y u → typeOf u = pure (.type T)) (h : sp [.ref a, y] H Q E) : rLeft C T sp E (.ref a) y H Q := ⟨a, dx, fs, rfl, ha, ty, h⟩
theorem opR2 {a dx : Addr} {fs : List (Str × V)} {i : Int} (ha : H a = some (.ins C dx fs)) (h : sp [.ref a, .int i] H Q E) : rRight C sp E (.int i) (.ref a) H Q := ⟨i, a, dx, fs, rfl, rfl, ha, h⟩
theorem neg2 {a dx : Addr} {fs : List (Str × V)} (ha : H a = some (.ins C dx fs)) (h : sp [.ref a] H Q E) : rOne C sp E (.ref a) H Q := ⟨a, dx, fs, rfl, ha, h⟩
theorem cmp2 {K : PySem.W.Frag} {a dx : Addr} {fs : List (Str × V)} {y : V} {t : Value} (ha : H a = some (.ins C dx fs)) (ty : TyX K H y t) (nf : PySem.W.notFirst K C t = true) (h : sp [.ref a, y] H Q E) : rCmp K C sp E (.ref a) y H Q := ⟨a, dx, fs, t, rfl, ha, ty, nf, h⟩
theorem ne2 {K : PySem.W.Frag} {a dx : Addr} {fs : List (Str × V)} {y : V} {t : Value} (ha : H a = some (.ins C dx fs)) (ty : TyX K H y t) (nf : PySem.W.notFirst K C t = true) (h : sp [.ref a, y] H (fun v H' => ∃ b, v = .bl b ∧ Q (.bl (!b)) H') E) : rNeOwn K C sp E (.ref a) y H Q := ⟨a, dx, fs, t, rfl, ha, ty, nf, h⟩
theorem callI {tf : TE} {t : TA} (h : tf σ H fun y H1 => ∃ a, y = V.ref a ∧ t σ H1 fun vs H2 => (∃ dx fs, H2 a = some (.ins C dx fs)) ∧ sp (V.ref a :: vs) H2 Q E) : tCallI C sp E tf t σ H Q := h
theorem ty_int {i : Int} : ∀ u, RelV (.int i) u → typeOf u = pure (.type "int") := by
  rintro u ⟨t, rfl⟩
  rfl
end
end Own
/-! ## lists made of lists, and what == says of ints -/
namespace Rd
open PySem PySem.Spec PyProof.Rows L2
theorem lc {wi : TI} {g : TG} {tt : TT} {te : TE} {vs : List Nat} {σ : L2.St} {H : Hp} {Q : VK} (h : wi σ H fun J H1 => ∀ D, H1 D = none → ∃ W : Nat → Nat → Hp → Prop, (∃ m, W 0 m (upd H1 D (.lst []))) ∧ ∀ i m H, W i m H →
    (J.stop i H ∧ Q (.ref D) H) ∨ (J.go i H ∧ ∃ Nx : Hp → Prop, (∀ H', Nx H' → ∃ m', m' < m ∧ W (i + 1) m' H') ∧ ∀ x H', J.yld i H x H' → g x (wipe σ vs) H' fun σ2 H2 => wipe σ2 vs = wipe σ vs ∧ tt σ2 H2 fun b H3 =>
      if b = true then te σ2 H3 fun y H4 => ∃ acc, H4 D = some (.lst acc) ∧ acc.length < sizeLine ∧ Nx (upd H4 D (.lst (acc ++ [y]))) else Nx H3)) : tLc wi g tt te vs σ H Q := h
theorem il {K : PySem.W.Frag} {tl : TE} {σ : L2.St} {H : Hp} {R : It → Hp → Prop} (h : tl σ H fun x H1 => ∃ a, x = .ref a ∧ (∃ xs, SqL K H1 a xs) ∧ R (Itl K a) H1) : iList K tl σ H R := h
theorem same_upd {H H' : Hp} {D : Addr} {o : HO} (hD : H D = none) (S : Same H H') : Same H (upd H' D o) := fun b u e => by
  rw [upd_ne (ne_of_none e hD)]
  exact S b u e
/-- [e for x in l]: the items' images, where e makes the image and leaves what was tracked -/
theorem lcMap {α : Type} {items : List α} {inj res : α → V} {K : PySem.W.Frag} {a : Addr} {i : Nat} {te : TE} {vs : List Nat} {σ : L2.St} {H : Hp} {Q : VK} (hs : SqL K H a (items.map inj)) (hn : items.length ≤ 1000)
    (hw : ∀ x, wipe ((wipe σ vs).set i (some x)) vs = wipe σ vs)
    (elem : ∀ x ∈ items, ∀ H', Same H H' → ∀ R : VK, (∀ H'', Same H' H'' → R (res x) H'') → te ((wipe σ vs).set i (some (inj x))) H' R)
    (k : ∀ (p : Addr) (H' : Hp), H p = none → Same H H' → H' p = some (.lst (items.map res)) → Q (.ref p) H') :
    (∃ xs, SqL K H a xs) ∧ ∀ D, H D = none → ∃ W : Nat → Nat → Hp → Prop, (∃ m, W 0 m (upd H D (.lst []))) ∧ ∀ t m H, W t m H →
      ((Itl K a).stop t H ∧ Q (.ref D) H) ∨ ((Itl K a).go t H ∧ ∃ Nx : Hp → Prop, (∀ H', Nx H' → ∃ m', m' < m ∧ W (t + 1) m' H') ∧ ∀ x H', (Itl K a).yld t H x H' → (gName i) x (wipe σ vs) H' fun σ2 H2 => wipe σ2 vs = wipe σ vs ∧ tYes σ2 H2 fun b H3 =>
        if b = true then te σ2 H3 fun y H4 => ∃ acc, H4 D = some (.lst acc) ∧ acc.length < sizeLine ∧ Nx (upd H4 D (.lst (acc ++ [y]))) else Nx H3) := by
  refine ⟨⟨_, hs⟩, fun D hD => lc_list (xs := items.map inj) (fun t H' => Same H H' ∧ H' D = some (.lst ((items.take t).map res))) ⟨same_upd hD (Same.refl _), upd_same⟩ (fun t H' _ p => p.1.seq hs) (fun t x H' hx p => ?_) (fun H' p => ?_)⟩
  · obtain ⟨S, hl⟩ := p
    rw [List.getElem?_map] at hx
    cases e : items[t]? with
    | none => rw [e] at hx; cases hx
    | some y =>
      rw [e] at hx
      cases hx
      have hy : y ∈ items := List.mem_of_getElem? e
      have ht : t < items.length := (List.getElem?_eq_some_iff.mp e).1
      refine ⟨hw _, iteT (B := Same H H' ∧ H' D = some (.lst ((items.take (t + 1)).map res))) rfl (elem y hy H' S _ fun H'' S' => ⟨_, S' _ _ hl, ?_, ?_, ?_⟩)⟩
      · rw [List.length_map, List.length_take]
        exact small1000 (by omega)
      · exact same_upd hD (S.trans S')
      · rw [upd_same, List.take_add_one, e]
        simp
  · obtain ⟨S, hl⟩ := p
    rw [List.length_map, List.take_length] at hl
    exact k D H' hD S hl
theorem lcMapI {ns : List Int} {g : Int → Int} {K : PySem.W.Frag} {a : Addr} {i : Nat} {te : TE} {vs : List Nat} {σ : L2.St} {H : Hp} {Q : VK} (hs : SqL K H a (ns.map V.int)) (hn : ns.length ≤ 1000)
    (hw : ∀ x, wipe ((wipe σ vs).set i (some x)) vs = wipe σ vs)
    (elem : ∀ x ∈ ns, ∀ H', Same H H' → ∀ R : VK, (∀ H'', Same H' H'' → R (.int (g x)) H'') → te ((wipe σ vs).set i (some (.int x))) H' R)
    (k : ∀ (p : Addr) (H' : Hp), H p = none → Same H H' → H' p = some (.lst ((ns.map g).map V.int)) → Q (.ref p) H') :
    (∃ xs, SqL K H a xs) ∧ ∀ D, H D = none → ∃ W : Nat → Nat → Hp → Prop, (∃ m, W 0 m (upd H D (.lst []))) ∧ ∀ t m H, W t m H →
      ((Itl K a).stop t H ∧ Q (.ref D) H) ∨ ((Itl K a).go t H ∧ ∃ Nx : Hp → Prop, (∀ H', Nx H' → ∃ m', m' < m ∧ W (t + 1) m' H') ∧ ∀ x H', (Itl K a).yld t H x H' → (gName i) x (wipe σ vs) H' fun σ2 H2 => wipe σ2 vs = wipe σ vs ∧ tYes σ2 H2 fun b H3 =>
        if b = true then te σ2 H3 fun y H4 => ∃ acc, H4 D = some (.lst acc) ∧ acc.length < sizeLine ∧ Nx (upd H4 D (.lst (acc ++ [y]))) else Nx H3) :=
  lcMap (inj := V.int) (res := fun x => .int (g x)) hs hn hw elem fun p H' hp S h => k p H' hp S (by rw [List.map_map]; exact h)
theorem lcVarI {ns : List Int} {g : Int → Int} {K : PySem.W.Frag} {a : Addr} {i j : Nat} {te : TE} {vs : List Nat} {σ : L2.St} {H : Hp} {Q : VK} (ej : σ[j]? = some (some (.ref a))) (hs : SqL K H a (ns.map V.int)) (hn : ns.length ≤ 1000)
    (hw : ∀ x, wipe ((wipe σ vs).set i (some x)) vs = wipe σ vs)
    (elem : ∀ x ∈ ns, ∀ H', Same H H' → ∀ R : VK, (∀ H'', Same H' H'' → R (.int (g x)) H'') → te ((wipe σ vs).set i (some (.int x))) H' R)
    (k : ∀ (p : Addr) (H' : Hp), H p = none → Same H H' → H' p = some (.lst ((ns.map g).map V.int)) → Q (.ref p) H') : tLc (iList K (tVar j)) (gName i) tYes te vs σ H Q :=
  lc (il ⟨_, ej, _, rfl, lcMapI hs hn hw elem k⟩)
/-- [e for x in l if t] where t never holds: a new empty list -/
theorem lcNone {items : List V} {K : PySem.W.Frag} {a : Addr} {i j : Nat} {te : TE} {tt : TT} {vs : List Nat} {σ : L2.St} {H : Hp} {Q : VK} (ej : σ[j]? = some (some (.ref a))) (hs : SqL K H a items)
    (hw : ∀ x, wipe ((wipe σ vs).set i (some x)) vs = wipe σ vs)
    (test : ∀ x ∈ items, ∀ H', Same H H' → ∀ R : Bool → Hp → Prop, (∀ H'', Same H' H'' → R false H'') → tt ((wipe σ vs).set i (some x)) H' R)
    (k : ∀ (p : Addr) (H' : Hp), H p = none → Same H H' → H' p = some (.lst []) → Q (.ref p) H') : tLc (iList K (tVar j)) (gName i) tt te vs σ H Q := by
  refine lc (il ⟨_, ej, _, rfl, ⟨_, hs⟩, fun D hD => lc_list (xs := items) (fun _ H' => Same H H' ∧ H' D = some (.lst [])) ⟨same_upd hD (Same.refl _), upd_same⟩ (fun t H' _ p => p.1.seq hs) (fun t x H' hx p => ?_) (fun H' p => k D H' hD p.1 p.2)⟩)
  obtain ⟨S, hl⟩ := p
  refine ⟨hw _, test x (List.mem_of_getElem? hx) H' S _ fun H'' S' => ?_⟩
  exact iteF (A := te _ H'' _) rfl ⟨S.trans S', S' _ _ hl⟩
theorem mulB {a n : Int} {A B : Nat} (ha : a.natAbs < 2 ^ A) (hn : n.natAbs < 2 ^ B) : -(2 ^ (A + B)) < a * n ∧ a * n < 2 ^ (A + B) := by
  have h := wide_lt ha hn
  have e : ((2 ^ (A + B) : Nat) : Int) = (2 : Int) ^ (A + B) := by simp
  rw [← e]
  omega
theorem dp_ints {K : PySem.W.Frag} {H : Hp} : ∀ ns : List Int, DpAll K H (ns.map V.int) (ns.map PyData.int)
  | [] => .nil
  | _ :: r => .cons (.int _) (dp_ints r)
theorem dp_listI {K : PySem.W.Frag} {H : Hp} {a : Addr} {ns : List Int} (h : SqL K H a (ns.map V.int)) : Dp K H (.ref a) (.list (ns.map PyData.int)) := .lst h (dp_ints ns)
theorem can_ints : ∀ ns : List Int, PyData.canLayAll0 (ns.map PyData.int) = true
  | [] => by simp [PyData.canLayAll0]
  | _ :: r => by simp only [List.map_cons, PyData.canLayAll0, PyData.canLay0, can_ints r, Bool.and_self]
theorem dep_ints : ∀ ns : List Int, PyData.depthAll (ns.map PyData.int) = 0
  | [] => by simp [PyData.depthAll]
  | _ :: r => by simp only [List.map_cons, PyData.depthAll, PyData.depth, dep_ints r, Nat.max_self]
theorem shaped_listI (ns : List Int) : SeqAt.shaped (.list (ns.map PyData.int)) = true := by
  simp only [SeqAt.shaped, PyData.canLay0, can_ints, PyData.depth, dep_ints]
  decide
theorem eqvAll_ints : ∀ ns ms : List Int, PyData.eqvAll (ns.map PyData.int) (ms.map PyData.int) = decide (ns = ms)
  | [], [] => by simp [PyData.eqvAll]
  | [], _ :: _ => by simp [PyData.eqvAll]
  | _ :: _, [] => by simp [PyData.eqvAll]
  | x :: r, y :: q => by
    simp only [List.map_cons, PyData.eqvAll, PyData.eqv, eqvAll_ints r q]
    by_cases h : x = y
    · subst h; simp
    · simp [h]
theorem eqv_listI (ns ms : List Int) : PyData.eqv (.list (ns.map PyData.int)) (.list (ms.map PyData.int)) = decide (ns = ms) := by
  simp only [PyData.eqv, eqvAll_ints]
theorem eqv_pair (a b c d : Int) : PyData.eqv (.tuple [.int a, .int b]) (.tuple [.int c, .int d]) = (a == c && b == d) := by
  simp [PyData.eqv, PyData.eqvAll]
theorem eqv_pairV (a b c d : Int) : PyData.eqv (.tuple [.int a, .int b]) (.tuple [.int c, .int d]) = (decide (V.int a = .int c) && decide (V.int b = .int d)) := by
  simp only [PyData.eqv, PyData.eqvAll, Bool.and_true, V.int.injEq]
  rw [Bool.eq_iff_iff]
  simp
theorem dp_pair {K : PySem.W.Frag} {H : Hp} {p : Addr} {a b : Int} (h : SqT K H p [.int a, .int b]) : Dp K H (.ref p) (.tuple [.int a, .int b]) := .tup h (.cons (.int _) (.cons (.int _) .nil))
theorem shaped_pair (a b : Int) : SeqAt.shaped (.tuple [.int a, .int b]) = true := by
  simp only [SeqAt.shaped, PyData.canLay0, PyData.canLayAll0, PyData.depth, PyData.depthAll]
  rfl
theorem isi {X : Cx} {K : PySem.W.Frag} (e : X.K = K) : CallR X (.builtin "isinstance") (rIsi K) := e ▸ call_isi
theorem dp_nil {K : PySem.W.Frag} {H : Hp} {p : Addr} (h : SqL K H p []) : Dp K H (.ref p) (.list []) := .lst h .nil
theorem eqv_nil : PyData.eqv (.list []) (.list []) = true := by simp [PyData.eqv, PyData.eqvAll]
theorem shaped_nil : SeqAt.shaped (.list []) = true := by
  simp only [SeqAt.shaped, PyData.canLay0, PyData.canLayAll0, PyData.depth, PyData.depthAll]
  rfl
/-- an item of a written list of ints at a drawn place -/
theorem pick {ns : List Int} {lo hi : Int} {K : PySem.W.Frag} {H : Hp} {a : Addr} {xs : List V} {d : Int} {Q : VK} (hm : ∀ n ∈ ns, lo ≤ n ∧ n ≤ hi) (e : SqL K H a xs) (eq : xs = ns.map V.int) (h0 : 0 ≤ d) (h1 : d < (ns.length : Int))
    (h : ∀ n : Int, n ∈ ns → lo ≤ n → n ≤ hi → Q (.int n) H) : rIxL K (.ref a) (.int d) H Q := by
  subst eq
  obtain ⟨j, rfl⟩ : ∃ j : Nat, d = (j : Int) := ⟨d.toNat, by omega⟩
  have hj : j < ns.length := by omega
  have hn : ns[j] ∈ ns := List.getElem_mem hj
  exact ⟨a, _, _, .int ns[j], rfl, rfl, e, atI_nat (by rw [List.getElem?_map, List.getElem?_eq_getElem hj]; rfl), h _ hn (hm _ hn).1 (hm _ hn).2⟩
theorem sgn {d n B : Int} (h0 : 0 ≤ d) (h1 : d < B) (m : n ∈ [(1 : Int), -1]) : -B < d * n ∧ d * n < B := by
  simp only [List.mem_cons, List.not_mem_nil, or_false] at m
  rcases m with rfl | rfl <;> omega
end Rd
/-! ## pairs in order, lists of truths -/
namespace Rd
open PySem PySem.Spec PyProof.Rows L2
/-- what an order of pairs says: rr of the first unlike parts, z where all are alike -/
def rPr (K : PySem.W.Frag) (z : Bool) (rr : Int → Int → Bool) : R2 := fun x y H Q => ∃ (p q : Addr) (a b c d : Int), x = .ref p ∧ y = .ref q ∧ SqT K H p [.int a, .int b] ∧ SqT K H q [.int c, .int d] ∧ Q (.bl (if a = c then (if b = d then z else rr b d) else rr a c)) H
theorem pair_ints {us : List Value} {a b : Int} (h : IntsAre us [a, b]) : ∃ t u, us = [.int a t, .int b u] := by
  cases h with
  | cons _ t h1 =>
    cases h1 with
    | cons _ u h2 =>
      cases h2
      exact ⟨t, u, rfl⟩
theorem opPr {X : Cx} {op : CmpOp} {z : Bool} {rr : Int → Int → Bool}
    (T : ∀ {s : Shared} {l m : Addr} {u1 u2 w1 w2 : Value} {e r : Nat → Bool}, s.heap.IsTuple l #[u1, u2] → s.heap.IsTuple m #[w1, w2] →
      (∀ j (h1 : j < (#[u1, u2] : Array Value).size) (h2 : j < (#[w1, w2] : Array Value).size), SeqAt.EqAt X.A.in1 s (#[u1, u2] : Array Value)[j] (#[w1, w2] : Array Value)[j] (e j)) →
      (∀ j (h1 : j < (#[u1, u2] : Array Value).size) (h2 : j < (#[w1, w2] : Array Value).size), e j = false → Ob.RcOp op X.A.in1 s (#[u1, u2] : Array Value)[j] (#[w1, w2] : Array Value)[j] (r j)) → Ob.RcOp op X.A s (.ref l) (.ref m) (Ob.lexAt e r z 0 2))
    (I1 : ∀ {s : Shared} (a b : Int) (t u : Tok), Ob.RcOp op X.A.in1 s (.int a t) (.int b u) (rr a b))
    (hop : ∀ (x y : Value), compareOp op x y = richCompare op x y) : OpR X (compareOp op) (rPr X.K z rr) := by
  intro pins s σ H x y v u Q I rx ry h
  obtain ⟨p, q, a, b, c, d, rfl, rfl, hp, hq, k⟩ := h
  cases rx
  cases ry
  obtain ⟨us, r1, p1, _⟩ := I.tuple hp
  obtain ⟨ws, r2, p2, _⟩ := I.tuple hq
  obtain ⟨t1, t2, rfl⟩ := pair_ints (Vals.ints (ns := [a, b]) r1)
  obtain ⟨t3, t4, rfl⟩ := pair_ints (Vals.ints (ns := [c, d]) r2)
  have R := T (s := s) (e := fun j => if j = 0 then decide (a = c) else decide (b = d)) (r := fun j => if j = 0 then rr a c else rr b d) p1 p2 (fun j h1 h2 => by
    rcases j with _ | _ | j
    · have w := SeqAt.EqAt.int_int (A := X.A.in1) (s := s) a t1 c t3
      rw [show (a == c) = decide (a = c) from by by_cases e : a = c <;> simp [e]] at w
      exact w
    · have w := SeqAt.EqAt.int_int (A := X.A.in1) (s := s) b t2 d t4
      rw [show (b == d) = decide (b = d) from by by_cases e : b = d <;> simp [e]] at w
      exact w
    · exact absurd h1 (by simp)) (fun j h1 h2 _ => by
    rcases j with _ | _ | j
    · exact I1 a c t1 t3
    · exact I1 b d t2 t4
    · exact absurd h1 (by simp))
  have hb : Ob.lexAt (fun j => if j = 0 then decide (a = c) else decide (b = d)) (fun j => if j = 0 then rr a c else rr b d) z 0 2 = (if a = c then (if b = d then z else rr b d) else rr a c) := by
    simp only [Ob.lexAt, decide_eq_true_eq, if_pos]
    by_cases e : a = c <;> by_cases f : b = d <;> simp [e, f]
  rw [hb] at R
  show wpAny (model X.prog X.w) X.A (compareOp op (.ref p) (.ref q)) (EP X pins σ Q) X.xe s
  rw [hop]
  exact R X.prog X.w X.xe (EP X pins σ Q) ⟨.bl _, H, I, rfl, k⟩
theorem opPrLt {X : Cx} (hu : X.A.units < cLine) : OpR X (compareOp .Lt) (rPr X.K false fun a b => decide (a < b)) :=
  opPr (fun h1 h2 e r => Ob.RcOp.tuples_lt h1 h2 hu e r) (fun a b t u => Ob.RcOp.lt_int a b t u) (fun _ _ => rfl)
theorem opPrLe {X : Cx} (hu : X.A.units < cLine) : OpR X (compareOp .LtE) (rPr X.K true fun a b => decide (a ≤ b)) :=
  opPr (fun h1 h2 e r => Ob.RcOp.tuples_le h1 h2 hu e r) (fun a b t u => Ob.RcOp.le_int a b t u) (fun _ _ => rfl)
theorem opPrGt {X : Cx} (hu : X.A.units < cLine) : OpR X (compareOp .Gt) (rPr X.K false fun a b => decide (b < a)) :=
  opPr (fun h1 h2 e r => Ob.RcOp.tuples_gt h1 h2 hu e r) (fun a b t u => Ob.RcOp.gt_int a b t u) (fun _ _ => rfl)
theorem opPrGe {X : Cx} (hu : X.A.units < cLine) : OpR X (compareOp .GtE) (rPr X.K true fun a b => decide (b ≤ a)) :=
  opPr (fun h1 h2 e r => Ob.RcOp.tuples_ge h1 h2 hu e r) (fun a b t u => Ob.RcOp.ge_int a b t u) (fun _ _ => rfl)
section
variable {K : PySem.W.Frag} {H : Hp} {p q : Addr} {a b c d : Int} {Q : VK}
theorem prLt (e : SqT K H p [.int a, .int b]) (f : SqT K H q [.int c, .int d]) (h : Q (.bl (decide (a < c ∨ a = c ∧ b < d))) H) : rPr K false (fun a b => decide (a < b)) (.ref p) (.ref q) H Q := by
  refine ⟨_, _, a, b, c, d, rfl, rfl, e, f, ?_⟩
  have w : (if a = c then (if b = d then false else decide (b < d)) else decide (a < c)) = decide (a < c ∨ a = c ∧ b < d) := by
    split <;> (try split) <;> (rw [eq_comm]; first | (apply decide_eq_false; omega) | (congr 1; apply propext; omega))
  rw [w]
  exact h
theorem prLe (e : SqT K H p [.int a, .int b]) (f : SqT K H q [.int c, .int d]) (h : Q (.bl (decide (a < c ∨ a = c ∧ b ≤ d))) H) : rPr K true (fun a b => decide (a ≤ b)) (.ref p) (.ref q) H Q := by
  refine ⟨_, _, a, b, c, d, rfl, rfl, e, f, ?_⟩
  have w : (if a = c then (if b = d then true else decide (b ≤ d)) else decide (a ≤ c)) = decide (a < c ∨ a = c ∧ b ≤ d) := by
    split <;> (try split) <;> (rw [eq_comm]; first | (apply decide_eq_true; omega) | (congr 1; apply propext; omega))
  rw [w]
  exact h
theorem prGt (e : SqT K H p [.int a, .int b]) (f : SqT K H q [.int c, .int d]) (h : Q (.bl (decide (c < a ∨ a = c ∧ d < b))) H) : rPr K false (fun a b => decide (b < a)) (.ref p) (.ref q) H Q := by
  refine ⟨_, _, a, b, c, d, rfl, rfl, e, f, ?_⟩
  have w : (if a = c then (if b = d then false else decide (d < b)) else decide (c < a)) = decide (c < a ∨ a = c ∧ d < b) := by
    split <;> (try split) <;> (rw [eq_comm]; first | (apply decide_eq_false; omega) | (congr 1; apply propext; omega))
  rw [w]
  exact h
theorem prGe (e : SqT K H p [.int a, .int b]) (f : SqT K H q [.int c, .int d]) (h : Q (.bl (decide (c < a ∨ a = c ∧ d ≤ b))) H) : rPr K true (fun a b => decide (b ≤ a)) (.ref p) (.ref q) H Q := by
  refine ⟨_, _, a, b, c, d, rfl, rfl, e, f, ?_⟩
  have w : (if a = c then (if b = d then true else decide (d ≤ b)) else decide (c ≤ a)) = decide (c < a ∨ a = c ∧ d ≤ b) := by
    split <;> (try split) <;> (rw [eq_comm]; first | (apply decide_eq_true; omega) | (congr 1; apply propext; omega))
  rw [w]
  exact h
end
/-- t + u, of pairs -/
theorem catP {K : PySem.W.Frag} {H : Hp} {p q : Addr} {a b c d : V} {Q : VK} (e : SqT K H p [a, b]) (f : SqT K H q [c, d]) (h : ∀ r, H r = none → Q (.ref r) (upd H r (.tup [a, b, c, d]))) : rCatT K (.ref p) (.ref q) H Q :=
  ⟨p, q, _, _, rfl, rfl, e, f, by simp, Nat.le_of_lt (small1000 (show 4 ≤ 1000 by decide)), fun z => absurd z (by simp), fun _ r hr => h r hr⟩
theorem it {K : PySem.W.Frag} {tl : TE} {σ : L2.St} {H : Hp} {R : It → Hp → Prop} (h : tl σ H fun x H1 => ∃ a, x = .ref a ∧ (∃ xs, SqT K H1 a xs) ∧ R (Itt K a) H1) : iTup K tl σ H R := h
theorem ckw {r : List V → List V → Hp → VK → Prop} {t tk : TA} {σ : L2.St} {H : Hp} {Q : VK} (h : t σ H fun vs H1 => tk σ H1 fun zs H2 => r vs zs H2 Q) : tCKw r t tk σ H Q := h
theorem sqTS {K : PySem.W.Frag} {H H' : Hp} {a : Addr} {xs : List V} (f : Same H H') (h : SqT K H a xs) : SqT K H' a xs :=
  h.elim (fun r => .inl (r.elim (fun z => .inl (f _ _ z)) fun ⟨o, z⟩ => .inr ⟨o, f _ _ z⟩)) .inr
/-- [e for x in t], t a tuple of ints -/
theorem lcMapT {ns : List Int} {g : Int → Int} {K : PySem.W.Frag} {a : Addr} {i : Nat} {te : TE} {vs : List Nat} {σ : L2.St} {H : Hp} {Q : VK} {xs : List V} (hs : SqT K H a xs) (ex : xs = ns.map V.int) (hn : ns.length ≤ 1000)
    (hw : ∀ x, wipe ((wipe σ vs).set i (some x)) vs = wipe σ vs)
    (elem : ∀ x ∈ ns, ∀ H', Same H H' → ∀ R : VK, (∀ H'', Same H' H'' → R (.int (g x)) H'') → te ((wipe σ vs).set i (some (.int x))) H' R)
    (k : ∀ (p : Addr) (H' : Hp), H p = none → Same H H' → H' p = some (.lst ((ns.map g).map V.int)) → Q (.ref p) H') :
    (∃ xs, SqT K H a xs) ∧ ∀ D, H D = none → ∃ W : Nat → Nat → Hp → Prop, (∃ m, W 0 m (upd H D (.lst []))) ∧ ∀ t m H, W t m H →
      ((Itt K a).stop t H ∧ Q (.ref D) H) ∨ ((Itt K a).go t H ∧ ∃ Nx : Hp → Prop, (∀ H', Nx H' → ∃ m', m' < m ∧ W (t + 1) m' H') ∧ ∀ x H', (Itt K a).yld t H x H' → (gName i) x (wipe σ vs) H' fun σ2 H2 => wipe σ2 vs = wipe σ vs ∧ tYes σ2 H2 fun b H3 =>
        if b = true then te σ2 H3 fun y H4 => ∃ acc, H4 D = some (.lst acc) ∧ acc.length < sizeLine ∧ Nx (upd H4 D (.lst (acc ++ [y]))) else Nx H3) := by
  subst ex
  refine ⟨⟨_, hs⟩, fun D hD => lc_tup (xs := ns.map V.int) (fun t H' => Same H H' ∧ H' D = some (.lst (((ns.take t).map g).map V.int))) ⟨same_upd hD (Same.refl _), upd_same⟩ (fun t H' _ p => sqTS p.1 hs) (fun t x H' hx p => ?_) (fun H' p => ?_)⟩
  · obtain ⟨S, hl⟩ := p
    rw [List.getElem?_map] at hx
    cases e : ns[t]? with
    | none => rw [e] at hx; cases hx
    | some y =>
      rw [e] at hx
      cases hx
      have hy : y ∈ ns := List.mem_of_getElem? e
      have ht : t < ns.length := (List.getElem?_eq_some_iff.mp e).1
      refine ⟨hw _, iteT (B := Same H H' ∧ H' D = some (.lst (((ns.take (t + 1)).map g).map V.int))) rfl (elem y hy H' S _ fun H'' S' => ⟨_, S' _ _ hl, ?_, ?_, ?_⟩)⟩
      · rw [List.length_map, List.length_map, List.length_take]
        exact small1000 (by omega)
      · exact same_upd hD (S.trans S')
      · rw [upd_same, List.take_add_one, e]
        simp
  · obtain ⟨S, hl⟩ := p
    rw [List.length_map, List.take_length] at hl
    exact k D H' hD S hl
/-- [e for x in t + u], t and u pairs of ints -/
theorem lcCatI {a b c d : Int} {g : Int → Int} {K : PySem.W.Frag} {p q : Addr} {i j1 j2 : Nat} {te : TE} {vs : List Nat} {σ : L2.St} {H : Hp} {Q : VK} (e1 : σ[j1]? = some (some (.ref p))) (e2 : σ[j2]? = some (some (.ref q))) (hp : SqT K H p [.int a, .int b]) (hq : SqT K H q [.int c, .int d])
    (hw : ∀ x, wipe ((wipe σ vs).set i (some x)) vs = wipe σ vs)
    (elem : ∀ x ∈ [a, b, c, d], ∀ H', Same H H' → ∀ R : VK, (∀ H'', Same H' H'' → R (.int (g x)) H'') → te ((wipe σ vs).set i (some (.int x))) H' R)
    (k : ∀ (r : Addr) (H' : Hp), Same H H' → H' r = some (.lst (([a, b, c, d].map g).map V.int)) → Q (.ref r) H') : tLc (iTup K (tOp (rCatT K) (tVar j1) (tVar j2))) (gName i) tYes te vs σ H Q :=
  lc (it ⟨_, e1, _, e2, catP hp hq fun r hr => ⟨r, rfl, lcMapT (SqT.of (L2.upd_same)) rfl (by simp) hw (fun x hx H' S R kk => elem x hx H' (Same.trans (same_upd hr (Same.refl _)) S) R kk) fun r2 H' h2 S hl => k r2 H' (Same.trans (same_upd hr (Same.refl _)) S) hl⟩⟩)
theorem two {u v : V} {i : Nat} {x : V} (h : [u, v][i]? = some x) : x = u ∨ x = v := by
  rcases i with _ | _ | i
  · exact .inl (Option.some.inj h).symm
  · exact .inr (Option.some.inj h).symm
  · simp at h
theorem dp_b4 {K : PySem.W.Frag} {H : Hp} {p : Addr} {x y z w : Bool} (h : SqL K H p [.bl x, .bl y, .bl z, .bl w]) : Dp K H (.ref p) (.list [.bool x, .bool y, .bool z, .bool w]) := .lst h (.cons (.bl _) (.cons (.bl _) (.cons (.bl _) (.cons (.bl _) .nil))))
theorem shaped_b4 (x y z w : Bool) : SeqAt.shaped (.list [.bool x, .bool y, .bool z, .bool w]) = true := by
  simp only [SeqAt.shaped, PyData.canLay0, PyData.canLayAll0, PyData.depth, PyData.depthAll]
  rfl
theorem lessV (a b c d : Int) : (decide (a < c) || (decide (V.int a = V.int c) && decide (b < d))) = decide (a < c ∨ a = c ∧ b < d) := by
  rw [Bool.eq_iff_iff]
  simp
theorem told4 (a b c d : Int) : (!PyData.eqv (.list [.bool (decide (a < c ∨ a = c ∧ b < d)), .bool (decide (a < c ∨ a = c ∧ b ≤ d)), .bool (decide (c < a ∨ a = c ∧ d < b)), .bool (decide (c < a ∨ a = c ∧ d ≤ b))])
    (.list [.bool (decide (a < c ∨ a = c ∧ b < d)), .bool (decide (a < c ∨ a = c ∧ b < d) || PyData.eqv (.tuple [.int a, .int b]) (.tuple [.int c, .int d])), .bool (!decide (a < c ∨ a = c ∧ b < d) && !PyData.eqv (.tuple [.int a, .int b]) (.tuple [.int c, .int d])), .bool (!decide (a < c ∨ a = c ∧ b < d))])) = false := by
  have e : PyData.eqv (.tuple [.int a, .int b]) (.tuple [.int c, .int d]) = decide (a = c ∧ b = d) := by
    rw [eqv_pair, Bool.eq_iff_iff]
    simp
  have e1 : decide (a < c ∨ a = c ∧ b ≤ d) = (decide (a < c ∨ a = c ∧ b < d) || decide (a = c ∧ b = d)) := by
    rw [Bool.eq_iff_iff]
    simp only [Bool.or_eq_true, decide_eq_true_eq]
    omega
  have e2 : decide (c < a ∨ a = c ∧ d < b) = (!decide (a < c ∨ a = c ∧ b < d) && !decide (a = c ∧ b = d)) := by
    rw [Bool.eq_iff_iff]
    simp only [Bool.and_eq_true, Bool.not_eq_true', decide_eq_true_eq, decide_eq_false_iff_not]
    omega
  have e3 : decide (c < a ∨ a = c ∧ d ≤ b) = (!decide (a < c ∨ a = c ∧ b < d)) := by
    rw [Bool.eq_iff_iff]
    simp only [Bool.not_eq_true', decide_eq_true_eq, decide_eq_false_iff_not]
    omega
  rw [e, e1, e2, e3]
  simp [PyData.eqv, PyData.eqvAll]
theorem absB {x m : Int} (h : (if x < 0 then -x else x) ≤ m) : -m ≤ x ∧ x ≤ m := by
  split at h <;> omega
theorem ltAt {a b c d n m : Int} (hn : n = 1000000000 ∨ n = 1000000000000000000000000000000) (hm : m ≤ 1000000) (ha : -m ≤ a ∧ a ≤ m) (hb : -m ≤ b ∧ b ≤ m) (hc : -m ≤ c ∧ c ≤ m) (hd : -m ≤ d ∧ d ≤ m) : decide (a * n + b < c * n + d) = decide (a < c ∨ a = c ∧ b < d) := by
  rw [Bool.eq_iff_iff]
  simp only [decide_eq_true_eq]
  rcases hn with rfl | rfl <;> omega
theorem eqAt {a b c d n m : Int} (hn : n = 1000000000 ∨ n = 1000000000000000000000000000000) (hm : m ≤ 1000000) (ha : -m ≤ a ∧ a ≤ m) (hb : -m ≤ b ∧ b ≤ m) (hc : -m ≤ c ∧ c ≤ m) (hd : -m ≤ d ∧ d ≤ m) : decide (V.int (a * n + b) = V.int (c * n + d)) = (decide (V.int a = V.int c) && decide (V.int b = V.int d)) := by
  rw [Bool.eq_iff_iff]
  simp only [Bool.and_eq_true, decide_eq_true_eq, V.int.injEq]
  rcases hn with rfl | rfl <;> omega
end Rd
/-! ## max(xs, key=int) of a list of ints -/
namespace MxK
open PySem PySem.Spec PyProof.Rows L2
section
variable {prog : Program} {w : World} {A : Around} {E : Value → Shared → Prop} {s : Shared} {l I S : Addr} {vs : List Value} {ns : List Int} {Z : Result → Shared → Prop}
/-- what the walk keeps: the older objects, the best with its key in S, the walker's place in I -/
structure St (s : Shared) (l I S : Addr) (h : Heap) (j : Nat) (M : Int) (tv tb : Tok) : Prop where
  old : ∀ b o, s.heap.get? b = some o → h.get? b = some o
  sto : ∃ c, h.get? S = some (seqObj "list" #[.int M tv, .int M tb] c)
  itr : h.IsListIter I l j
theorem St.list {h : Heap} {j : Nat} {M : Int} {tv tb : Tok} (K : St s l I S h j M tv tb) (hl : s.heap.IsList l vs.toArray) : h.IsList l vs.toArray := by
  obtain ⟨o, e, r⟩ := hl
  exact ⟨o, K.old _ _ e, r⟩
theorem getD_of {ns : List Int} {i : Nat} {n : Int} (h : ns[i]? = some n) : ns.getD i 0 = n := by simp [h]
theorem item {i : Nat} {v : Value} (hi : IntsAre vs ns) (h : vs[i]? = some v) : ∃ t, v = .int (ns.getD i 0) t ∧ ns.getD i 0 ∈ ns := by
  have hlen := hi.length
  have h1 : i < vs.length := (List.getElem?_eq_some_iff.mp h).1
  have h2 : ns[i]? = some (ns[i]'(by omega)) := List.getElem?_eq_getElem (by omega)
  obtain ⟨t, ht⟩ := hi.get i _ h2
  rw [h] at ht
  cases ht
  exact ⟨t, by rw [getD_of h2], by rw [getD_of h2]; exact List.getElem_mem _⟩
theorem loop (hh : A.handled = none) (hl : s.heap.IsList l vs.toArray) (hi : IntsAre vs ns) (hlI : l ≠ I) (hSI : S ≠ I) (nS : s.heap.get? S = none) (nI : s.heap.get? I = none)
    (done : ∀ h' tk' M t, (∀ b o, s.heap.get? b = some o → h'.get? b = some o) → M ∈ ns → (∀ a ∈ ns, a ≤ M) → Z (.ok (.ret (.int M t))) { s with heap := h', toks := tk' }) :
    ∀ (r j : Nat) (h : Heap) (tk : Nat) (M : Int) (tv tb : Tok), vs.length - j = r → j ≤ vs.length → St s l I S h j M tv tb → M ∈ ns → (∀ i, i < j → ns.getD i 0 ≤ M) →
      codeAny (model prog w) A (.builtin "max.loop" ⟨[.ref I, .type "int", .ref S], []⟩) Z { s with heap := h, toks := tk } := by
  have nm : (toString "max" ++ toString ".loop" : String) = "max.loop" := by decide
  have Wk := Walks.list (prog := prog) (w := w) (A := A.in1) hh I l hlI vs.toArray
  have zs : vs.toArray.size = vs.length := List.size_toArray ..
  have hlen := hi.length
  intro r
  induction r with
  | zero =>
    intro j h tk M tv tb hr hj K hM hb
    have ej : j = vs.length := by omega
    obtain ⟨c, gS⟩ := K.sto
    refine codeAny_builtin PySem.F.entry_max_loop (?_ : _)
    rw [Around.under_plainId (PySem.F.plain_max_loop : _) _]
    show wpAny _ A.in1 (seqItems? (.ref S) >>= fun _ => _) _ _ _
    refine wpAny_bind (wpAny_seqItems gS rfl (?_ : _))
    show wpAny _ A.in1 (tryCatch (pyNext (.ref I)) _ >>= fun _ => _) _ _ _
    refine wpAny_bind (wpAny_tryCatch (Wk.done _ _ _ ⟨by rw [zs, ← ej]; exact K.itr, K.list hl⟩ fun h' tk' kept => ?_))
    have gS' := kept S _ (by simpa using hSI) gS
    have sb := Heap.SameBut.update h' S (Obj.mapSeq fun _ => (#[] : Array Value))
    show wpAny _ A.in1 (updateSeq S (fun _ => #[]) >>= fun _ => _) _ _ _
    refine wpAny_bind (wpAny_updateSeq gS' rfl (wpAny_bind (wpAny_letGo (wpAny_pure (done _ _ M tv (fun b o q => ?_) hM (fun a ha => ?_))))))
    · have nb : b ≠ S := fun z => by rw [z, nS] at q; cases q
      have ni : b ≠ I := fun z => by rw [z, nI] at q; cases q
      rw [sb.2 b nb]
      exact kept b o (by simpa using ni) (K.old b o q)
    · obtain ⟨i, hi1, rfl⟩ := List.getElem_of_mem ha
      have := hb i (by omega)
      rw [getD_of (List.getElem?_eq_getElem hi1)] at this
      exact this
  | succ r ih =>
    intro j h tk M tv tb hr hj K hM hb
    have lt : j < vs.length := by omega
    obtain ⟨c, gS⟩ := K.sto
    refine codeAny_builtin PySem.F.entry_max_loop (?_ : _)
    rw [Around.under_plainId (PySem.F.plain_max_loop : _) _]
    show wpAny _ A.in1 (seqItems? (.ref S) >>= fun _ => _) _ _ _
    refine wpAny_bind (wpAny_seqItems gS rfl (?_ : _))
    show wpAny _ A.in1 (tryCatch (pyNext (.ref I)) _ >>= fun _ => _) _ _ _
    refine wpAny_bind (wpAny_tryCatch (Wk.item j _ _ _ (by rw [zs]; exact lt) ⟨K.itr, K.list hl⟩ fun v h' tk' hP st kept => ?_))
    obtain ⟨t, rfl, hn⟩ := item hi (show vs[j]? = some v by simpa using hP)
    have gS' := kept S _ (by simpa using hSI) gS
    have K' : ∀ b o, s.heap.get? b = some o → h'.get? b = some o := fun b o q => by
      have ni : b ≠ I := fun z => by rw [z, nI] at q; cases q
      exact kept b o (by simpa using ni) (K.old b o q)
    have bN : ∀ x, M ≤ x → ns.getD j 0 ≤ x → ∀ i, i < j + 1 → ns.getD i 0 ≤ x := fun x h1 h2 i hi1 => by
      by_cases e : i = j
      · rw [e]; exact h2
      · exact Int.le_trans (hb i (by omega)) h1
    generalize hx : ns.getD j 0 = x at hn bN ⊢
    show wpAny _ A.in1 (tryCatch (holding [.int x t] (call (.type "int") [.int x t])) _ >>= fun _ => _) _ _ _
    refine wpAny_bind (wpAny_tryCatch (wpAny_holding (call_int_int ?_)))
    show wpAny _ A.in1 (tryCatch (holding [.int x t, .int x t] (richCompare .Gt (.int x t) (.int M tb) >>= fun _ => _)) _ >>= fun _ => _) _ _ _
    refine wpAny_bind (wpAny_tryCatch (wpAny_holding (wpAny_bind (PyProof.Rows.gt_int ?_))))
    refine wpAny_bind (wpAny_holding (wpAny_truthy_bool ?_))
    refine wpAny_bind (wpAny_letGo (wpAny_pure (?_ : _)))
    by_cases q : M < x
    · have sb := Heap.SameBut.update h' S (Obj.mapSeq fun _ => #[.int x t, .int x t])
      have gN : ∃ c2, (h'.update S (Obj.mapSeq fun _ => #[.int x t, .int x t])).get? S = some (seqObj "list" #[.int x t, .int x t] c2) := ⟨_, get?_update_seq gS' fun _ => #[.int x t, .int x t]⟩
      obtain ⟨oI, gI, oc, od⟩ := id st.1
      simp only [q, decide_true, if_true]
      refine wpAny_bind (wpAny_updateSeq gS' rfl (wpAny_bind (wpAny_letGo ?_)))
      rw [nm]
      refine wpAny_pure ⟨plainId_quiet (PySem.F.plain_max_loop : _) _, ih (j + 1) _ _ x t t (by omega) lt ⟨fun b o e => ?_, gN, ⟨oI, (sb.2 I hSI.symm).trans gI, oc, od⟩⟩ hn (bN x (by omega) (Int.le_refl _))⟩
      have nb : b ≠ S := fun z => by rw [z, nS] at e; cases e
      rw [sb.2 b nb]
      exact K' b o e
    · simp only [q, decide_false, Bool.false_eq_true, if_false]
      refine wpAny_bind (wpAny_letGo (?_ : _))
      rw [nm]
      exact wpAny_pure ⟨plainId_quiet (PySem.F.plain_max_loop : _) _, ih (j + 1) _ _ M tv tb (by omega) lt ⟨K', ⟨c, gS'⟩, st.1⟩ hM (bN M (Int.le_refl _) (by omega))⟩
theorem max_key_int {Q : Value → Shared → Prop} (hh : A.handled = none) (hl : s.heap.IsList l vs.toArray) (hi : IntsAre vs ns) (hne : 0 < ns.length)
    (k : ∀ h' tk' M t, (∀ b o, s.heap.get? b = some o → h'.get? b = some o) → M ∈ ns → (∀ a ∈ ns, a ≤ M) → Q (.int M t) { s with heap := h', toks := tk' }) :
    wpAny (model prog w) A (call (.builtin "max") [.ref l] [(Str.ofString "key", .type "int")]) Q E s := by
  have nm : (toString "max" ++ toString ".loop" : String) = "max.loop" := by decide
  obtain ⟨ol, el, _⟩ := id hl
  have hlen := hi.length
  have ll : l < s.heap.objs.size := Heap.lt_size el
  refine kmb_tree PySem.F.kind_max PySem.F.plain_max PySem.F.entry_max (kmb_max_key _ _) (?_ : _)
  show wpAny _ A.in1 (Builtin.Builtins.bindParams "max" ["key", "default"] 0 ⟨[], [(Str.ofString "key", .type "int")]⟩ >>= fun _ => _) _ _ s
  refine wpAny_bind (wpAny_of_eq (show Builtin.Builtins.bindParams "max" ["key", "default"] 0 ⟨[], [(Str.ofString "key", .type "int")]⟩ = pure [some (.type "int"), none] from rfl) (wpAny_bind (wpAny_pure ?_)))
  refine wpAny_bind (wpAny_pyIter_list hl (wpAny_bind (wpAny_newList ?_ (Nat.zero_le _))))
  rw [nm]
  generalize hG : s.heap.push { cls := .type "list_iterator", data := .fields #[.ref l, .int 0 0] } = G
  have gz : G.objs.size = s.heap.objs.size + 1 := by rw [← hG]; exact size_push' ..
  have gI0 : G.get? s.heap.objs.size = some { cls := .type "list_iterator", data := .fields #[.ref l, .int 0 0] } := by rw [← hG]; exact Heap.get?_push_size _ rfl
  have gI : (G.push (seqObj "list" #[] 0)).get? s.heap.objs.size = some { cls := .type "list_iterator", data := .fields #[.ref l, .int 0 0] } := Heap.get?_push_of_some _ gI0
  have gS : (G.push (seqObj "list" #[] 0)).get? G.objs.size = some (seqObj "list" #[] 0) := Heap.get?_push_size _ rfl
  have old : ∀ b o, s.heap.get? b = some o → (G.push (seqObj "list" #[] 0)).get? b = some o := fun b o e => by
    rw [← hG]
    exact Heap.get?_push_of_some _ (Heap.get?_push_of_some _ e)
  have hlI : l ≠ s.heap.objs.size := Nat.ne_of_lt ll
  have hSI : G.objs.size ≠ s.heap.objs.size := by omega
  have nI : s.heap.get? s.heap.objs.size = none := Heap.get?_none_of_le (Nat.le_refl _)
  have nS : s.heap.get? G.objs.size = none := Heap.get?_none_of_le (by omega)
  have Wk := Walks.list (prog := prog) (w := w) (A := A.in1) hh s.heap.objs.size l hlI vs.toArray
  have zs : vs.toArray.size = vs.length := List.size_toArray ..
  refine wpAny_pure ⟨plainId_quiet (PySem.F.plain_max_loop : _) _, codeAny_builtin PySem.F.entry_max_loop (?_ : _)⟩
  rw [Around.under_plainId (PySem.F.plain_max_loop : _) _]
  show wpAny _ A.in1 (seqItems? (.ref _) >>= fun _ => _) _ _ _
  refine wpAny_bind (wpAny_seqItems gS rfl (?_ : _))
  show wpAny _ A.in1 (tryCatch (pyNext (.ref s.heap.objs.size)) _ >>= fun _ => _) _ _ _
  have ol2 : (G.push (seqObj "list" #[] 0)).IsList l vs.toArray := by
    obtain ⟨o, e, z⟩ := id hl
    exact ⟨o, old _ _ e, z⟩
  refine wpAny_bind (wpAny_tryCatch (Wk.item 0 _ _ _ (by rw [zs]; omega) ⟨⟨_, gI, rfl, rfl⟩, ol2⟩ fun v h' tk' hP st kept => ?_))
  obtain ⟨t, rfl, hn⟩ := item hi (show vs[0]? = some v by simpa using hP)
  have gS' := kept _ _ (by simpa using hSI) gS
  generalize hx : ns.getD 0 0 = x at hn ⊢
  show wpAny _ A.in1 (tryCatch (holding [.int x t] (call (.type "int") [.int x t])) _ >>= fun _ => _) _ _ _
  refine wpAny_bind (wpAny_tryCatch (wpAny_holding (call_int_int ?_)))
  have sb := Heap.SameBut.update h' G.objs.size (Obj.mapSeq fun _ => #[.int x t, .int x t])
  have gN : ∃ c2, (h'.update G.objs.size (Obj.mapSeq fun _ => #[.int x t, .int x t])).get? G.objs.size = some (seqObj "list" #[.int x t, .int x t] c2) := ⟨_, get?_update_seq gS' fun _ => #[.int x t, .int x t]⟩
  obtain ⟨oI, gI', oc, od⟩ := id st.1
  show wpAny _ A.in1 (updateSeq G.objs.size (fun _ => #[.int x t, .int x t]) >>= fun _ => _) _ _ _
  refine wpAny_bind (wpAny_updateSeq gS' rfl (?_ : _))
  rw [nm]
  refine wpAny_pure ⟨plainId_quiet (PySem.F.plain_max_loop : _) _, loop hh hl hi hlI hSI nS nI (fun h2 tk2 M t2 q hM hb => k h2 tk2 M t2 q hM hb) _ 1 _ _ x t t rfl (by omega) ⟨fun b o e => ?_, gN, ⟨oI, (sb.2 _ hSI.symm).trans gI', oc, od⟩⟩ hn (fun i hi1 => ?_)⟩
  · have nb : b ≠ G.objs.size := fun z => by rw [z, nS] at e; cases e
    have ni : b ≠ s.heap.objs.size := fun z => by rw [z, nI] at e; cases e
    rw [sb.2 b nb]
    exact kept b o (by simpa using ni) (old b o e)
  · have e : i = 0 := by omega
    rw [e, hx]
    exact Int.le_refl _
end
def rMaxK (K : PySem.W.Frag) : List V → List V → Hp → VK → Prop := fun vs zs H Q => ∃ (a : Addr) (ns : List Int), vs = [V.ref a] ∧ zs = [.ty "int"] ∧ SqL K H a (ns.map V.int) ∧ 0 < ns.length ∧ ∀ m, m ∈ ns → (∀ y, y ∈ ns → y ≤ m) → Q (.int m) H
theorem ck_max {X : Cx} (hc : X.calm = true) : CallRK X (.builtin "max") ["key"] (rMaxK X.K) := by
  intro pins s σ H xs zs us ws Q I r r2 h
  obtain ⟨a, ns, rfl, rfl, hs, hne, q⟩ := h
  obtain ⟨its, rv, hl, _⟩ := I.list hs
  obtain ⟨u, rfl, ru⟩ := vals1 r2
  cases ru
  rw [Vals.ref1 r]
  exact max_key_int (I.ok.hd hc) hl.isList rv.ints hne fun h' tk m t' hk h1 h2 => ⟨.int _, H, I.kept hk, ⟨_, rfl⟩, q m h1 h2⟩
end MxK
/-! ## an object of a built-in type without the number's slot, left of an own instance -/
namespace Own
open PySem PySem.Spec PyProof.Rows
section
variable {prog : Program} {w : World} {A : Around} {E : Value → Shared → Prop} {s : Shared} {K : PySem.W.Frag} {x C dx f f0 : Addr} {od : Option Obj} {op : Operator} {T : String}
theorem binR0 {a : Value} {Q : Value → Shared → Prop} (KX : K.In s.heap) (I : PySem.W.InstAt s.heap x (PySem.W.instObj C dx) C od) (hc : PySem.W.selfFirst K C = true) (ta : PySem.W.Looks (model prog w) s.heap (typeOf a) (.type T))
    (h0 : PySem.W.findIn K (.ref C) (PySem.dunder op.info.2) = some (some (.ref f0))) (h1 : PySem.W.findIn K (.ref C) (dunderR op.info.2) = some (some (.ref f))) (hf : PySem.W.isFn K (.ref f) = true)
    (hfill : PySem.W.Looks (model prog w) s.heap (fillsNumberSlot (.type T) op.info.2) false)
    (h : wpAny (model prog w) A (call (.ref f) [.ref x, a]) (PySem.W.CmpBack Q) E s) : wpAny (model prog w) A (binaryOp op a (.ref x)) Q E s := by
  obtain ⟨cd, rest, hcd, hm⟩ := PySem.W.ksp_first hc
  rcases hi : op.info with ⟨sym, nm⟩
  rw [hi] at h0 h1 hfill
  dsimp only at h0 h1 hfill
  have two := PySem.W.ksp_try KX I h1 hf h
  obtain ⟨hh, g, d, tt, os⟩ := s
  have L1 : PySem.W.Looks (model prog w) hh (typeOf (.ref x)) (.ref C) := I.type
  have L3 : PySem.W.Looks (model prog w) hh (fillsNumberSlot (.ref C) nm) true := PySem.W.fills_K KX hcd hm h0
  have nc : (Value.type T == Value.ref C) = false := Bool.eq_false_iff.mpr fun q => nomatch beq_iff_eq.mp q
  simp only [binaryOp, hi]
  refine wpAny_holding (wpAny_bind (?_ : _))
  unfold binaryOp1
  refine wpAny_bind (ta.at (wpAny_bind (L1.at (wpAny_bind (hfill.at ?_)))))
  simp only [nc, Bool.false_eq_true, if_false]
  refine wpAny_bind (L3.at (?_ : _))
  simp only [Bool.false_and, Bool.false_eq_true, if_false, pure_bind, Bool.not_false, Bool.and_self, if_true]
  refine wpAny_bind (wpAny_mono two (fun r s' q => ?_) fun _ _ e => e)
  obtain ⟨v, rfl, q⟩ := q
  exact wpAny_bind (wpAny_rule (wpAny_pure (wpAny_pure q)))
end
end Own
namespace Own
open PySem PySem.Spec PyProof.Rows L2
section
variable {prog : Program} {w : World} {A : Around} {E : Value → Shared → Prop} {s : Shared} {K : PySem.W.Frag} {x C dx f f0 : Addr} {od : Option Obj} {op : Operator} {T : String}
theorem binT0 {b : Value} {Q : Value → Shared → Prop} (KX : K.In s.heap) (I : PySem.W.InstAt s.heap x (PySem.W.instObj C dx) C od) (hc : PySem.W.selfFirst K C = true) (tb : PySem.W.Looks (model prog w) s.heap (typeOf b) (.type T))
    (h0 : PySem.W.findIn K (.ref C) (PySem.dunder op.info.2) = some (some (.ref f))) (hf : PySem.W.isFn K (.ref f) = true) (hfill : PySem.W.Looks (model prog w) s.heap (fillsNumberSlot (.type T) op.info.2) false)
    (h : wpAny (model prog w) A (call (.ref f) [.ref x, b]) (PySem.W.CmpBack Q) E s) : wpAny (model prog w) A (binaryOp op (.ref x) b) Q E s := by
  obtain ⟨cd, rest, hcd, hm⟩ := PySem.W.ksp_first hc
  rcases hi : op.info with ⟨sym, nm⟩
  rw [hi] at h0 hfill
  dsimp only at h0 hfill
  have one := PySem.W.ksp_try KX I h0 hf h
  obtain ⟨hh, g, d, tt, os⟩ := s
  have L1 : PySem.W.Looks (model prog w) hh (typeOf (.ref x)) (.ref C) := I.type
  have L3 : PySem.W.Looks (model prog w) hh (fillsNumberSlot (.ref C) nm) true := PySem.W.fills_K KX hcd hm h0
  have nc : (Value.ref C == Value.type T) = false := Bool.eq_false_iff.mpr fun q => nomatch beq_iff_eq.mp q
  simp only [binaryOp, hi]
  refine wpAny_holding (wpAny_bind (?_ : _))
  unfold binaryOp1
  refine wpAny_bind (L1.at (wpAny_bind (tb.at (wpAny_bind (L3.at (?_ : _))))))
  simp only [nc, Bool.false_eq_true, if_false]
  refine wpAny_bind (hfill.at (?_ : _))
  simp only [Bool.and_false, Bool.false_and, Bool.false_eq_true, if_false, pure_bind, Bool.not_false, Bool.and_self, if_true]
  refine wpAny_bind (wpAny_mono one (fun r s' q => ?_) fun _ _ e => e)
  obtain ⟨v, rfl, q⟩ := q
  exact wpAny_pure (wpAny_pure q)
end
section
variable {X : Cx} {CX : CXT} {k : Nat} {f C : Addr} {fd : FuncData} {ps : List Str} {sp : Sp} {E : XK} {op : Operator} {Ts : List String}
/-- built-in types that have no number's slot -/
structure NoSlot (K : PySem.W.Frag) (op : Operator) (T : String) : Prop where
  l : ∃ fo ro, PySem.W.findIn K (.type T) (PySem.dunder op.info.2) = some fo ∧ PySem.W.findIn K (.type T) (dunderR op.info.2) = some ro ∧ ((fo.isSome && !isSeqSlot fo) || (ro.isSome && !isSeqSlot ro)) = false
theorem NoSlot.fills {K : PySem.W.Frag} {T : String} {M : Model} {h : Heap} (Z : NoSlot K op T) (KX : K.In h) : PySem.W.Looks M h (fillsNumberSlot (.type T) op.info.2) false := by
  obtain ⟨fo, ro, h1, h2, e⟩ := Z.l
  have z := PySem.W.ksp_fillsT (M := M) KX h1 h2
  rw [e] at z
  exact z
/-- any object of such a type left of an own instance: the reflected operator is asked -/
def rOddL (K : PySem.W.Frag) (C : Addr) (Ts : List String) (sp : Sp) (E : XK) : R2 := fun x y H Q => ∃ a dx fs T, y = .ref a ∧ H a = some (.ins C dx fs) ∧ T ∈ Ts ∧ TyX K H x (.type T) ∧ sp [.ref a, x] H Q E
theorem opL0 (F : FnOk X.prog X.w X.K X.mg X.base CX k f fd ps sp) (hr : Room k X.A) (Z : BinR X.K C f op) (N : ∀ T ∈ Ts, NoSlot X.K op T) (hb : Binds X.K fd ps []) (hx : Passes CX X E) : OpR X (binaryOp op) (rOddL X.K C Ts sp E) := by
  rintro pins s σ H x y u v Q I rx ry ⟨a, dx, fs, T, rfl, ha, hT, ty, q⟩
  cases ry
  obtain ⟨od, J⟩ := inst I ha
  obtain ⟨z1, ⟨f0, z2⟩, z3, z4, z5⟩ := Z
  exact binR0 I.kIn J z1 (typed I rx ty) z2 z3 z4 ((N T hT).fills I.kIn) (back (run2 (x := .ref a) F hr hb hx I rfl rx q))
/-- any object of such a type right of an own instance -/
def rOddR (K : PySem.W.Frag) (C : Addr) (Ts : List String) (sp : Sp) (E : XK) : R2 := fun x y H Q => ∃ a dx fs T, x = .ref a ∧ H a = some (.ins C dx fs) ∧ T ∈ Ts ∧ TyX K H y (.type T) ∧ sp [.ref a, y] H Q E
theorem opR0 (F : FnOk X.prog X.w X.K X.mg X.base CX k f fd ps sp) (hr : Room k X.A) (B : Bin X.K C f op) (N : ∀ T ∈ Ts, NoSlot X.K op T) (hb : Binds X.K fd ps []) (hx : Passes CX X E) : OpR X (binaryOp op) (rOddR X.K C Ts sp E) := by
  rintro pins s σ H x y u v Q I rx ry ⟨a, dx, fs, T, rfl, ha, hT, ty, q⟩
  cases rx
  obtain ⟨od, J⟩ := inst I ha
  exact binT0 I.kIn J B.first (typed I ry ty) B.at_ B.fn ((N T hT).fills I.kIn) (back (run2 (x := .ref a) F hr hb hx I rfl ry q))
end
end Own
namespace Own
open PySem PySem.Spec PyProof.Rows
section
variable {prog : Program} {w : World} {A : Around} {E : Value → Shared → Prop} {s : Shared} {K : PySem.W.Frag} {x C dx f f0 : Addr} {od : Option Obj} {op : Operator} {id : String}
theorem declB_add {b : Bool} {Q : Shared → Prop} (h : s.heap.get? x = some (PySem.W.instObj C dx)) (hq : Q s) :
    wpAny (model prog w) A (Builtin.«int.__add__» ⟨[.bool b, .ref x], []⟩) (fun fin s' => ∃ v, fin = .done (.ret v) ∧ v = .notImplemented ∧ Q s') E s := by
  obtain ⟨hp, g, d, tk, os⟩ := s
  wp_walk using wpAny_load h
  exact ⟨_, rfl, rfl, hq⟩
theorem declB_sub {b : Bool} {Q : Shared → Prop} (h : s.heap.get? x = some (PySem.W.instObj C dx)) (hq : Q s) :
    wpAny (model prog w) A (Builtin.«int.__sub__» ⟨[.bool b, .ref x], []⟩) (fun fin s' => ∃ v, fin = .done (.ret v) ∧ v = .notImplemented ∧ Q s') E s := by
  obtain ⟨hp, g, d, tk, os⟩ := s
  wp_walk using wpAny_load h
  exact ⟨_, rfl, rfl, hq⟩
theorem declB_mul {b : Bool} {Q : Shared → Prop} (h : s.heap.get? x = some (PySem.W.instObj C dx)) (hq : Q s) :
    wpAny (model prog w) A (Builtin.«int.__mul__» ⟨[.bool b, .ref x], []⟩) (fun fin s' => ∃ v, fin = .done (.ret v) ∧ v = .notImplemented ∧ Q s') E s := by
  obtain ⟨hp, g, d, tk, os⟩ := s
  wp_walk using wpAny_load h
  exact ⟨_, rfl, rfl, hq⟩
theorem slotB_add : Slot "bool" "__add__" "int.__add__" :=
  .of (T := "bool") (name := "__add__") (owner := "int") (n := "__add__") (by rw [typeLookup_type, builtinLookup_eq_fast]; kernel_rfl) (by decide +kernel) (by decide +kernel) (by decide +kernel) (.inl (by decide +kernel)) (by rw [isSubtype_type]; kernel_rfl)
theorem slotB_sub : Slot "bool" "__sub__" "int.__sub__" :=
  .of (T := "bool") (name := "__sub__") (owner := "int") (n := "__sub__") (by rw [typeLookup_type, builtinLookup_eq_fast]; kernel_rfl) (by decide +kernel) (by decide +kernel) (by decide +kernel) (.inl (by decide +kernel)) (by rw [isSubtype_type]; kernel_rfl)
theorem slotB_mul : Slot "bool" "__mul__" "int.__mul__" :=
  .of (T := "bool") (name := "__mul__") (owner := "int") (n := "__mul__") (by rw [typeLookup_type, builtinLookup_eq_fast]; kernel_rfl) (by decide +kernel) (by decide +kernel) (by decide +kernel) (.inl (by decide +kernel)) (by rw [isSubtype_type]; kernel_rfl)
end
end Own
namespace Own
open PySem PySem.Spec PyProof.Rows
section
variable {prog : Program} {w : World} {A : Around} {E : Value → Shared → Prop} {s : Shared} {K : PySem.W.Frag} {x C dx f f0 : Addr} {od : Option Obj} {op : Operator} {id : String}
/-- a truth declines an operator beside an instance, then the instance's reflected one is asked -/
theorem binRB {p : Bool} {Q : Value → Shared → Prop} (KX : K.In s.heap) (I : PySem.W.InstAt s.heap x (PySem.W.instObj C dx) C od) (hc : PySem.W.selfFirst K C = true)
    (h0 : PySem.W.findIn K (.ref C) (PySem.dunder op.info.2) = some (some (.ref f0))) (h1 : PySem.W.findIn K (.ref C) (dunderR op.info.2) = some (some (.ref f))) (hf : PySem.W.isFn K (.ref f) = true)
    (hsub : PySem.W.subIn K (.ref C) (.type "bool") = some false) (hfill : fillsNumberSlot (.type "bool") op.info.2 = pure true) (slot : Slot "bool" (PySem.dunder op.info.2) id)
    (decl : wpAny (model prog w) A (call (.builtin id) [.bool p, .ref x]) (fun v s' => v = .notImplemented ∧ s'.heap = s.heap ∧ s'.gens = s.gens ∧ s'.drawn = s.drawn ∧ s'.os = s.os ∧ s'.toks = s.toks) E s)
    (h : wpAny (model prog w) A (call (.ref f) [.ref x, .bool p]) (PySem.W.CmpBack Q) E s) : wpAny (model prog w) A (binaryOp op (.bool p) (.ref x)) Q E s := by
  obtain ⟨cd, rest, hcd, hm⟩ := PySem.W.ksp_first hc
  rcases hi : op.info with ⟨sym, nm⟩
  rw [hi] at h0 h1 hfill slot
  dsimp only at h0 h1 hfill slot
  have two := PySem.W.ksp_try KX I h1 hf h
  obtain ⟨hh, g, d, tt, os⟩ := s
  have L1 : PySem.W.Looks (model prog w) hh (typeOf (.ref x)) (.ref C) := I.type
  have L3 : PySem.W.Looks (model prog w) hh (fillsNumberSlot (.ref C) nm) true := PySem.W.fills_K KX hcd hm h0
  have L5 : PySem.W.Looks (model prog w) hh (isSubtype (.ref C) (.type "bool")) false := PySem.W.looks_subIn KX hsub
  have hne : (Value.type "bool" == Value.ref C) = false := Bool.eq_false_iff.mpr fun q => by cases beq_iff_eq.mp q
  have hpy : numberSlotInPython (.type "bool") nm = pure false := rfl
  have one : wpAny (model prog w) A (tryMethod (.bool p) (PySem.dunder nm) (.ref x)) (fun r s' => r = none ∧ s'.heap = hh ∧ s'.gens = g ∧ s'.drawn = d ∧ s'.os = os ∧ s'.toks = tt) E ⟨hh, g, d, tt, os⟩ :=
    wpAny_tryMethod_declines (T := "bool") (typeIs_bool' _ p) slot (wpAny_mono decl (fun v s' q => ⟨q.1, rfl, q.2⟩) fun _ _ e => e)
  simp only [binaryOp, hi]
  refine wpAny_holding (wpAny_bind ?_)
  unfold binaryOp1
  refine wpAny_bind (wpAny_typeOf (typeIs_bool' _ p) (wpAny_bind (L1.at (wpAny_bind (wpAny_of_eq hfill ?_)))))
  simp only [hne, Bool.false_eq_true, if_false]
  refine wpAny_bind (L3.at ?_)
  simp only [Bool.and_self, if_true]
  refine wpAny_bind (L5.at ?_)
  simp only [Bool.false_eq_true, if_false, pure_bind, Bool.not_false, Bool.and_self, if_true, hpy]
  refine wpAny_bind (wpAny_mono one (fun r s' q => ?_) fun _ _ e => e)
  obtain ⟨h1, g1, d1, t1, o1⟩ := s'
  obtain ⟨rfl, q1, q2, q3, q4, q5⟩ := q
  dsimp only at q1 q2 q3 q4 q5
  subst q1 q2 q3 q4 q5
  dsimp only
  refine wpAny_bind (wpAny_mono two (fun r s' q => ?_) fun _ _ e => e)
  obtain ⟨v, rfl, q⟩ := q
  exact wpAny_bind (wpAny_rule (wpAny_pure (wpAny_pure q)))
end
end Own
namespace Own
open PySem PySem.Spec PyProof.Rows L2
section
variable {X : Cx} {CX : CXT} {k : Nat} {f C : Addr} {fd : FuncData} {ps : List Str} {sp : Sp} {E : XK} {op : Operator}
def rRightB (C : Addr) (sp : Sp) (E : XK) : R2 := fun x y H Q => ∃ i a dx fs, x = .bl i ∧ y = .ref a ∧ H a = some (.ins C dx fs) ∧ sp [.ref a, .bl i] H Q E
theorem opRB_of {id : String} {B : Builtin} (hfill : fillsNumberSlot (.type "bool") op.info.2 = pure true) (slot : Slot "bool" (PySem.dunder op.info.2) id) (entry : entryFor table id = some B) (args : ∀ a b : Value, argsOk id ⟨[a, b], []⟩)
    (decl : ∀ {prog : Program} {w : World} {A : Around} {E : Value → Shared → Prop} {s : Shared} {x C dx : Addr} {p : Bool} {Q : Shared → Prop}, s.heap.get? x = some (PySem.W.instObj C dx) → Q s →
      wpAny (model prog w) A (B ⟨[.bool p, .ref x], []⟩) (fun fin s' => ∃ v, fin = .done (.ret v) ∧ v = .notImplemented ∧ Q s') E s)
    (F : FnOk X.prog X.w X.K X.mg X.base CX k f fd ps sp) (hr : Room k X.A) (Z : BinR X.K C f op) (zb : PySem.W.subIn X.K (.ref C) (.type "bool") = some false) (hb : Binds X.K fd ps []) (hx : Passes CX X E) : OpR X (binaryOp op) (rRightB C sp E) := by
  rintro pins s σ H x y u v Q I rx ry ⟨i, a, dx, fs, rfl, rfl, ha, q⟩
  cases (show u = Value.bool i from rx)
  cases ry
  obtain ⟨od, J⟩ := inst I ha
  obtain ⟨z1, ⟨f0, z2⟩, z3, z4, z5⟩ := Z
  exact binRB I.kIn J z1 z2 z3 z4 zb hfill slot (wpAny_call_entry slot (typeIs_bool' s i) entry (wpAny_mono (decl (Q := fun s' => s'.heap = s.heap ∧ s'.gens = s.gens ∧ s'.drawn = s.drawn ∧ s'.os = s.os ∧ s'.toks = s.toks) J.at_ ⟨rfl, rfl, rfl, rfl, rfl⟩) (fun fin s' ⟨v, e, q⟩ => ⟨v, e, q⟩) fun _ _ e => e) (args _ _))
    (back (run2 (x := .ref a) (y := .bl i) F hr hb hx I rfl rfl q))
theorem opRBadd (F : FnOk X.prog X.w X.K X.mg X.base CX k f fd ps sp) (hr : Room k X.A) (Z : BinR X.K C f .Add) (zb : PySem.W.subIn X.K (.ref C) (.type "bool") = some false) (hb : Binds X.K fd ps []) (hx : Passes CX X E) : OpR X (binaryOp .Add) (rRightB C sp E) :=
  opRB_of PySem.F.fills_bool_add slotB_add PySem.F.entry_int_add PySem.F.args_int_add_2 declB_add F hr Z zb hb hx
theorem opRBsub (F : FnOk X.prog X.w X.K X.mg X.base CX k f fd ps sp) (hr : Room k X.A) (Z : BinR X.K C f .Sub) (zb : PySem.W.subIn X.K (.ref C) (.type "bool") = some false) (hb : Binds X.K fd ps []) (hx : Passes CX X E) : OpR X (binaryOp .Sub) (rRightB C sp E) :=
  opRB_of PySem.F.fills_bool_sub slotB_sub PySem.F.entry_int_sub PySem.F.args_int_sub_2 declB_sub F hr Z zb hb hx
theorem opRBmul (F : FnOk X.prog X.w X.K X.mg X.base CX k f fd ps sp) (hr : Room k X.A) (Z : BinR X.K C f .Mult) (zb : PySem.W.subIn X.K (.ref C) (.type "bool") = some false) (hb : Binds X.K fd ps []) (hx : Passes CX X E) : OpR X (binaryOp .Mult) (rRightB C sp E) :=
  opRB_of PySem.F.fills_bool_mul slotB_mul PySem.F.entry_int_mul PySem.F.args_int_mul_2 declB_mul F hr Z zb hb hx
end
end Own
/-! ## [x for x, b in zip(xs, bs) if b], bs a list of truths -/
namespace Rd
open PySem PySem.Spec PyProof.Rows L2
theorem wipe2 {σ : L2.St} {i j : Nat} {a b : Option V} (h : i ≠ j) : wipe (((wipe σ [i, j]).set i a).set j b) [i, j] = wipe σ [i, j] := by
  show (((((σ.set j none).set i none).set i a).set j b).set j none).set i none = (σ.set j none).set i none
  rw [List.set_set, List.set_set, List.set_comm _ _ h, List.set_set, List.set_set]
theorem lcZip {names : List V} {bs : List Bool} {K : PySem.W.Frag} {a b : Addr} {i1 i2 j1 j2 : Nat} {σ : L2.St} {H : Hp} {Q : VK} (hl : names.length = bs.length) (hn : names.length ≤ 1000) (e1 : σ[j1]? = some (some (.ref a))) (e2 : σ[j2]? = some (some (.ref b)))
    (h1 : SqL K H a names) {ws : List V} (h2' : SqL K H b ws) (ew : ws = bs.map V.bl)
    (hij : i1 ≠ i2) (li : i1 < σ.length) (lj : i2 < σ.length)
    (k : ∀ (p : Addr) (H' : Hp), H p = none → Same H H' → H' p = some (.lst (((names.zip bs).filter (·.2)).map (·.1))) → Q (.ref p) H') :
    tLc (iZip K (tCons (tVar j1) (tCons (tVar j2) tNil))) (gTup K 2 (gCons (gName i1) (gCons (gName i2) gNil))) (tB (tVar i2)) (tVar i1) [i1, i2] σ H Q := by
  subst ew
  have h2 := h2'
  have hw : ∀ x y, wipe (((wipe σ [i1, i2]).set i1 (some x)).set i2 (some y)) [i1, i2] = wipe σ [i1, i2] := fun x y => wipe2 hij
  have g1 : ∀ x y, (((wipe σ [i1, i2]).set i1 (some x)).set i2 (some y))[i1]? = some (some x) := fun x y => by
    rw [List.getElem?_set_ne (Ne.symm hij), List.getElem?_set_self (by rw [wipe_length]; exact li)]
  have g2 : ∀ x y, (((wipe σ [i1, i2]).set i1 (some x)).set i2 (some y))[i2]? = some (some y) := fun x y => by
    rw [List.getElem?_set_self (by rw [List.length_set, wipe_length]; exact lj)]
  refine lc ⟨_, e1, _, e2, a, b, _, _, rfl, h1, h2, fun D hD => lc_it (walk_zip (n := names.length) (by rw [List.length_map, ← hl, Nat.min_self])) (fun t H' => Same H H' ∧ H' D = some (.lst ((((names.zip bs).take t).filter (·.2)).map (·.1)))) ⟨same_upd hD (Same.refl _), upd_same⟩
    (fun t H' _ p => ⟨p.1.seq h1, p.1.seq h2⟩) (fun t v H0 H' ht p y => ?_) (fun H' p => ?_)⟩
  · obtain ⟨S, hd⟩ := p
    obtain ⟨T, x, y, rfl, hT, rfl, hx, hy⟩ := y
    dsimp only at hx hy
    have htb : t < bs.length := by omega
    have ey : y = .bl bs[t] := by
      rw [List.getElem?_map, List.getElem?_eq_getElem htb] at hy
      exact (Option.some.inj hy).symm
    subst ey
    have ex : names[t] = x := by
      rw [List.getElem?_eq_getElem ht] at hx
      exact Option.some.inj hx
    have nd : D ≠ T := ne_of_none hd hT
    have S' : Same H (upd H0 T (.tup [x, .bl bs[t]])) := same_upd (Same.free S hT) S
    have hd' : upd H0 T (.tup [x, .bl bs[t]]) D = some (.lst ((((names.zip bs).take t).filter (·.2)).map (·.1))) := by rw [upd_ne nd]; exact hd
    have tk : (names.zip bs).take (t + 1) = (names.zip bs).take t ++ [(x, bs[t])] := by
      rw [List.take_add_one, List.getElem?_eq_getElem (by rw [List.length_zip]; omega), List.getElem_zip, ex]
      rfl
    refine gtup (SqT.of upd_same) rfl (gcons (name (gcons (name (gnil ⟨hw _ _, tb (var (g2 _ _) (bl ?_))⟩)))))
    cases hb : bs[t] with
    | true =>
      rw [hb] at hd' S' tk
      refine iteT rfl (var (g1 _ _) ⟨_, hd', ?_, same_upd hD S', ?_⟩)
      · rw [List.length_map]
        refine small1000 (Nat.le_trans (List.length_filter_le _ _) ?_)
        rw [List.length_take, List.length_zip]
        omega
      · rw [upd_same, tk, List.filter_append, List.map_append]
        rfl
    | false =>
      rw [hb] at hd' S' tk
      refine iteF rfl ⟨S', ?_⟩
      rw [hd', tk, List.filter_append, List.map_append]
      simp
  · obtain ⟨S, hd⟩ := p
    rw [List.take_of_length_le (by rw [List.length_zip]; omega)] at hd
    exact k D H' hD S hd
end Rd
/-! ## isinstance of a caught error whatever its class; a call of a def that a name holds, whatever it is -/
namespace Ex2
open PySem PySem.Spec PyProof.Rows L2
def rIsE2 (K : PySem.W.Frag) (cls : Value) (d : Option Addr) (a : Addr) : List V → Hp → VK → Prop := fun xs H Q => ∃ D, cls = .ref D ∧ d = none ∧ ExcC K D ∧ rIsE K D a xs H Q
theorem call_isE2 {X : Cx} {K : PySem.W.Frag} (eK : X.K = K) {a : Addr} {cls : Value} {d : Option Addr} {oe : Obj} {pn : List (Addr × Obj)} (hz : Zc cls d oe) (hf : ∃ vs, oe.data = .fields vs) : CallR (X.suite a ((a, oe) :: pn)) (.builtin "isinstance") (rIsE2 K cls d a) := by
  subst eK
  rintro pins s σ H xs us Q I r ⟨D, rfl, rfl, C, q⟩
  exact call_isE C hz hf pins s σ H xs us Q I r q
/-- a def at f keeps sp, and may let errors out as sp says -/
structure HeldX (P : Program) (w : World) (K : PySem.W.Frag) (mg : Str → Option Value) (base : Heap) (k : Nat) (f : Addr) (sp : Sp) : Prop where
  ex : ∃ (j : Nat) (fd : FuncData) (ps : List Str), j ≤ k ∧ FnOk P w K mg base (L2.CX P w) j f fd ps sp ∧ PySem.W.keepIn K (.ref f) = true ∧ Binds K fd ps []
def tCallX (P : Program) (w : World) (K : PySem.W.Frag) (mg : Str → Option Value) (base : Heap) (k i : Nat) (E : L2.St → XK) (t : TA) : TE := fun σ H Q => ∃ f sp, HeldX P w K mg base k f sp ∧ σ[i]? = some (some (.ref f)) ∧ t σ H fun vs H1 => sp vs H1 Q (E σ)
section
variable {X : Cx} {k i : Nat} {E : L2.St → XK} {x : Str} {p pos : Pos} {e : Expr} {es : List Expr} {t : TA}
theorem pe_callX {P : Program} {w : World} {K : PySem.W.Frag} {mg : Str → Option Value} {base : Heap} (e1 : X.prog = P) (e2 : X.w = w) (e3 : X.K = K) (e4 : X.mg = mg) (e5 : X.base = base) (hr : Room k X.A) (hN : X.N[i]? = some x) (hv : Vis X.env.scope x) (hx : ∀ σ, PassesAt (L2.CX X.prog X.w) X σ (E σ)) (ha : PA X (e :: es) t)
    (h1 : (x == ("__debug__" : Str)) = false := by decide) (h2 : (x == ("__classdict__" : Str)) = false := by decide) (h3 : starEach (e :: es) X.env = (false, eval e X.env) :: starEach es X.env := by rfl) (h4 : (backTo pos (starEach es X.env)).any (·.1) = false := by rfl) :
    PE X (.Call (.Name x p) (e :: es) [] pos) (tCallX P w K mg base k i E t) := by
  subst e1 e2 e3 e4 e5
  refine ⟨fun pins s σ H Q I ⟨f, sp, ⟨⟨j, fd, ps, hj, F, kp, bd⟩⟩, at_, rest⟩ => ?_⟩
  refine wpAny_Call_Name_kw (thn ((pe_var (pos := p) hN hv h1 h2).run pins s σ H (fun w1 Hq => w1 = .ref f ∧ Hq = H) I ⟨.ref f, at_, rfl, rfl⟩) fun u s1 ⟨w1, Hq, I1, r1, ⟨e1, e2⟩⟩ => ?_)
  subst e1 e2
  cases r1
  exact PySem.W.callWith_K (h₀ := X.base) I.ok.mod.kin kp (thn (ha.run pos pins s1 σ _ _ I1 rest) fun us s2 ⟨vs, H2, I2, r, q⟩ => ⟨I2.kIn, run_fnS F (hr.mono hj) bd (hx σ) I2 r q⟩) h3 h4
end
end Ex2
/-! ## objects that are no integers; loops over written lists; one item of a list of anything -/
namespace Rd
open PySem PySem.Spec PyProof.Rows L2
def TS1 : List String := ["NoneType", "tuple", "list", "dict"]
/-- an address is marked as the source's -/
def IsSrc (_ : Addr) : Prop := True
def TS0 : List String := ["NoneType", "str", "tuple", "list", "dict"]
/-- none, a text, a tuple, a list of another length than two, a dict -/
inductive OddN (H : Hp) : V → Prop where
  | non : OddN H .non
  | str (x : Str) : OddN H (.str x)
  | tup {p : Addr} {xs : List V} (e : H p = some (.tup xs)) : OddN H (.ref p)
  | lst {p : Addr} {xs : List V} (e : H p = some (.lst xs)) (n : xs.length ≠ 2) : OddN H (.ref p)
  | dK {p : Addr} {kvs : List (Key × V)} (e : H p = some (.dK kvs)) : OddN H (.ref p)
theorem OddN.ty {K : PySem.W.Frag} {H : Hp} {v : V} : OddN H v → ∃ T, T ∈ TS0 ∧ TyX K H v (.type T)
  | .non => ⟨_, by decide, .base .non⟩
  | .str x => ⟨_, by decide, .base (.str x)⟩
  | .tup e => ⟨_, by decide, .base (.tup e)⟩
  | .lst e _ => ⟨_, by decide, .base (.lst e)⟩
  | .dK e => ⟨_, by decide, .base (.dK e)⟩
theorem OddN.same {H H' : Hp} {v : V} (S : Same H H') : OddN H v → OddN H' v
  | .non => .non
  | .str x => .str x
  | .tup e => .tup (S _ _ e)
  | .lst e n => .lst (S _ _ e) n
  | .dK e => .dK (S _ _ e)
theorem OddN.ty1 {K : PySem.W.Frag} {H : Hp} {v : V} : OddN H v → (∃ x, v = .str x) ∨ ∃ T, T ∈ TS1 ∧ TyX K H v (.type T)
  | .non => .inr ⟨_, by decide, .base .non⟩
  | .str x => .inl ⟨_, rfl⟩
  | .tup e => .inr ⟨_, by decide, .base (.tup e)⟩
  | .lst e _ => .inr ⟨_, by decide, .base (.lst e)⟩
  | .dK e => .inr ⟨_, by decide, .base (.dK e)⟩
theorem OddN.new {H : Hp} {v : V} {p : Addr} {o : HO} (n : H p = none) (h : OddN H v) : OddN (upd H p o) v := h.same fun b u e => by
  rw [upd_ne (ne_of_none e n)]; exact e
theorem OddN.two {H : Hp} {v : V} {a : Addr} {x y : V} {o : HO} (e : H a = some (.lst [x, y])) (h : OddN H v) : OddN (upd H a o) v := by
  cases h with
  | non => exact .non
  | str x => exact .str x
  | tup q => exact .tup (by rw [upd_ne (ne_of q e (by intro z; cases z))]; exact q)
  | lst q n => exact .lst (by rw [upd_ne (ne_of q e (by intro z; cases z; exact n rfl))]; exact q) n
  | dK q => exact .dK (by rw [upd_ne (ne_of q e (by intro z; cases z))]; exact q)
theorem tyof_same {K : PySem.W.Frag} {H H' : Hp} {y : V} {t : Value} (S : Same H H') (h : TyOf K H y t) : TyOf K H' y t := by
  cases h with
  | non => exact .non
  | bl x => exact .bl x
  | int x => exact .int x
  | str x => exact .str x
  | flt x => exact .flt x
  | lst e => exact .lst (S _ _ e)
  | frz e => exact .frz (S _ _ e)
  | tup e => exact .tup (S _ _ e)
  | dK e => exact .dK (S _ _ e)
  | dT e => exact .dT (S _ _ e)
  | ins e c a n k m => exact .ins (S _ _ e) c a n k m
theorem tyx_same {K : PySem.W.Frag} {H H' : Hp} {y : V} {t : Value} (S : Same H H') (h : TyX K H y t) : TyX K H' y t := by
  cases h with
  | base b => exact .base (tyof_same S b)
  | byt b => exact .byt b
  | set e => exact .set (S _ _ e)
  | kList e c => exact .kList e c
  | kTuple e c => exact .kTuple e c
  | kDict e c => exact .kDict e c
  | fTuple e => exact .fTuple (S _ _ e)
  | fDict e => exact .fDict (S _ _ e)
theorem kit_TS_int {K : PySem.W.Frag} : ∀ T ∈ TS0, PySem.W.kitOne K (.type T) (.type "int") = some false := by
  intro T h
  simp only [TS0, List.mem_cons, List.not_mem_nil, or_false] at h
  rcases h with rfl | rfl | rfl | rfl | rfl
  exact kit_none_int
  exact kit_str_int
  exact kit_tuple_int
  exact kit_list_int
  exact kit_dict_int
/-- .. or a truth -/
def OddV (H : Hp) (v : V) : Prop := OddN H v ∨ ∃ b, v = .bl b
theorem OddV.same {H H' : Hp} {v : V} (S : Same H H') (h : OddV H v) : OddV H' v := h.imp (·.same S) id
theorem dp_ss {K : PySem.W.Frag} {H : Hp} {p : Addr} {a b : Str} (h : SqL K H p [.str a, .str b]) : Dp K H (.ref p) (.list [.str a, .str b]) := .lst h (.cons (.str _) (.cons (.str _) .nil))
theorem shaped_ss {a b : Str} (ha : PyData.strOk a = true) (hb : PyData.strOk b = true) : SeqAt.shaped (.list [.str a, .str b]) = true := by
  simp only [PySem.SeqAt.shaped, PySem.PyData.canLay0, PySem.PyData.canLayAll0, PySem.PyData.depth, PySem.PyData.depthAll, ha, hb]; rfl
theorem OddV.sameR {H H' : Hp} {v : V} (h : OddV H v) (S : Same H H') : OddV H' v := h.same S
theorem eqv_ss (a b : Str) : PyData.eqv (.list [.str a, .str b]) (.list [.str a, .str b]) = true := by simp [PyData.eqv, PyData.eqvAll]
/-- of a list of anything one item: what all its items keep -/
theorem pickV (P : Hp → V → Prop) {K : PySem.W.Frag} {H : Hp} {a : Addr} {xs : List V} {d : Int} {Q : VK} (e : SqL K H a xs) (hm : ∀ v ∈ xs, P H v) (h0 : 0 ≤ d) (h1 : d < (xs.length : Int))
    (k : ∀ v, v ∈ xs → P H v → Q v H) : rIxL K (.ref a) (.int d) H Q := by
  obtain ⟨j, rfl⟩ : ∃ j : Nat, d = (j : Int) := ⟨d.toNat, by omega⟩
  have hj : j < xs.length := by omega
  exact ixL e (atI_nat (List.getElem?_eq_getElem hj)) (k _ (List.getElem_mem hj) (hm _ (List.getElem_mem hj)))
theorem catL {H : Hp} {l b : Addr} {xs zs : List V} {Q : VK} (h1 : H l = some (.lst xs)) (h2 : H b = some (.lst zs)) (n : xs.length + zs.length ≤ 1000) (k : ∀ p, H p = none → Q (.ref p) (upd H p (.lst (xs ++ zs)))) : rCat (.ref l) (.ref b) H Q :=
  ⟨l, b, xs, zs, rfl, rfl, h1, h2, Nat.le_of_lt (small1000 n), k⟩
/-- a loop over a list that is known whole, turn by turn -/
def unr (K : PySem.W.Frag) (a : Addr) (all : List V) (g : TG) (tb : TS) (D : Ends) : List V → L2.St → Hp → Prop
  | [], σ, H => D.nx σ H
  | x :: xs, σ, H => g x σ H fun σ2 H2 => tb { D with nx := fun σ' H' => SqL K H' a all ∧ unr K a all g tb D xs σ' H', ct := fun σ' H' => SqL K H' a all ∧ unr K a all g tb D xs σ' H', bk := D.nx } σ2 H2
theorem unroll {K : PySem.W.Frag} {a : Addr} {all : List V} {g : TG} {tb : TS} {D : Ends} {σ : L2.St} {H : Hp} (h0 : SqL K H a all) (h : unr K a all g tb D all σ H) :
    ∃ W : Nat → Nat → L2.St → Hp → Prop, (∃ m, W 0 m σ H) ∧ ∀ i m σ H, W i m σ H →
      ((Itl K a).stop i H ∧ D.nx σ H) ∨ ((Itl K a).go i H ∧ ∃ N : L2.St → Hp → Prop, (∀ σ' H', N σ' H' → ∃ m', m' < m ∧ W (i + 1) m' σ' H') ∧ ∀ x H', (Itl K a).yld i H x H' → g x σ H' fun σ2 H2 => tb { D with nx := N, ct := N, bk := D.nx } σ2 H2) := by
  refine for_list (xs := all) (fun i σ H => SqL K H a all ∧ unr K a all g tb D (all.drop i) σ H) ⟨h0, h⟩ (fun i σ H _ p => p.1) (fun i x σ H hx p => ?_) (fun σ H p => ?_)
  · have hi : i < all.length := (List.getElem?_eq_some_iff.mp hx).1
    have e : all.drop i = x :: all.drop (i + 1) := by rw [List.drop_eq_getElem_cons hi]; congr 1; exact (List.getElem?_eq_some_iff.mp hx).2
    have q := p.2
    rw [e] at q
    exact q
  · have q := p.2
    rw [List.drop_length] at q
    exact q
theorem unroll2 {K : PySem.W.Frag} {a : Addr} {all : List V} {g : TG} {tb : TS} {D : Ends} {σ : L2.St} {H : Hp} (h0 : SqL K H a all) (h : unr K a all g tb D all σ H) :
    (∃ xs, SqL K H a xs) ∧ ∃ W : Nat → Nat → L2.St → Hp → Prop, (∃ m, W 0 m σ H) ∧ ∀ i m σ H, W i m σ H →
      ((Itl K a).stop i H ∧ D.nx σ H) ∨ ((Itl K a).go i H ∧ ∃ N : L2.St → Hp → Prop, (∀ σ' H', N σ' H' → ∃ m', m' < m ∧ W (i + 1) m' σ' H') ∧ ∀ x H', (Itl K a).yld i H x H' → g x σ H' fun σ2 H2 => tb { D with nx := N, ct := N, bk := D.nx } σ2 H2) := ⟨⟨_, h0⟩, unroll h0 h⟩
theorem unrCons {K : PySem.W.Frag} {a : Addr} {all : List V} {g : TG} {tb : TS} {D : Ends} {x : V} {xs : List V} {σ : L2.St} {H : Hp}
    (h : g x σ H fun σ2 H2 => tb { D with nx := fun σ' H' => SqL K H' a all ∧ unr K a all g tb D xs σ' H', ct := fun σ' H' => SqL K H' a all ∧ unr K a all g tb D xs σ' H', bk := D.nx } σ2 H2) : unr K a all g tb D (x :: xs) σ H := h
theorem unrNil {K : PySem.W.Frag} {a : Addr} {all : List V} {g : TG} {tb : TS} {D : Ends} {σ : L2.St} {H : Hp} (h : D.nx σ H) : unr K a all g tb D [] σ H := h
/-- {k: v} of written values -/
theorem disp1 {σ : L2.St} {H : Hp} {Q : VK} {i : Int} {x : V} (h : ∀ p, H p = none → Q (.ref p) (upd H p (.dK [(.inl i, x)]))) : tDisp [(tC (.int i), tC x)] σ H Q :=
  fun p np => ⟨upd_same, [(.inl i, x)], rfl, Nat.le_of_ble_eq_true rfl, by rw [upd_upd]; exact h p np⟩
theorem newK {σ : L2.St} {H : Hp} {Q : VK} (h : ∀ p, H p = none → Q (.ref p) (upd H p (.dK []))) : tDNewK σ H Q := h
theorem ty_str {b : Str} : ∀ u, RelV (.str b) u → typeOf u = pure (.type "str") := by
  intro u r
  obtain ⟨t, q⟩ := (show ∃ t, u = Value.str b t from r)
  cases q
  rfl
theorem ty_bl {b : Bool} : ∀ u, RelV (.bl b) u → typeOf u = pure (.type "bool") := by
  intro u r
  cases (show u = Value.bool b from r)
  rfl
end Rd
/-! ## static methods, called by their class; a def's promise that is its own body; small helpers -/
namespace Sta
open PySem PySem.Spec PyProof.Rows L2
structure SMet (K : PySem.W.Frag) (C : Addr) (m : Str) (f : Addr) : Prop where
  rd : PySem.W.readsIn K C (.type "type") = true
  ga : PySem.W.specialIn K (.ref C) "__getattribute__" = some (some (.builtin "type.__getattribute__"))
  at_ : ∃ p rest, PySem.W.findCls K (.ref C) (.type "type") m = some (.get (.builtin "staticmethod.__get__") (.ref p) .none (.ref C)) ∧ PySem.W.recIn K p "staticmethod" = some (.ref f :: rest)
  kp : PySem.W.keepIn K (.ref f) = true
def tSMeth (C : Addr) (sp : Sp) (dvs : List V) (E : XK) (ta : TE) (t : TA) : TE := fun σ H Q => ta σ H fun x H1 => x = .ref C ∧ t σ H1 fun vs H2 => sp (vs ++ dvs) H2 Q E
section
variable {X : Cx} {CX : CXT} {k : Nat} {C f : Addr} {fd : FuncData} {ps : List Str} {ds : List Value} {dvs : List V} {sp : Sp} {E : XK} {o e : Expr} {es : List Expr} {m : Str} {pos apos : Pos} {ta : TE} {t : TA} {pl : Sem Bool}
theorem getmeth_sm {pins : List (Addr × Obj)} {σ : L2.St} {H : Hp} {s : Shared} {A : Around} {E' : Value → Shared → Prop} {Q : Value × List Value → Shared → Prop} (I : Inv X pins σ H s) (c : SMet X.K C m f)
    (h : ∀ s', Inv X pins σ H s' → Q (.ref f, []) s') : wpAny (model X.prog X.w) A (getMethod (.ref C) m pl) Q E' s := by
  obtain ⟨p, rest, a1, a2⟩ := c.at_
  exact PySem.W.method_cls I.kIn c.ga (PySem.W.cls_bind I.kIn c.rd a1 (wpAny_call (PySem.W.sm_get (s := { s with toks := s.toks + 1 }) I.kIn a2 (PySem.W.handed_on rfl (h _ (I.tok _))))))
theorem pe_smeth (he : PE X o ta) (c : SMet X.K C m f) (F : FnOk X.prog X.w X.K X.mg X.base CX k f fd ps sp) (hr : Room k X.A) (hb : Binds X.K fd ps ds) (hd : Vals dvs ds) (hx : Passes CX X E) (ha : PA X (e :: es) t)
    (hst : starEach (e :: es) X.env = (false, eval e X.env) :: starEach es X.env := by rfl) (hpl : (backTo pos (starEach es X.env)).any (·.1) = false := by rfl)
    (ht : eval (.Call (.Attribute o m apos) (e :: es) [] pos) X.env = (do
      let ov ← eval o X.env
      standAt apos.atName
      let (f, first) ← holding [ov] (getMethod ov m pl)
      callWith pos f first (backTo pos (starEach (e :: es) X.env)) (backToKw pos (keywordEach [] X.env))) := by rfl) :
    PE X (.Call (.Attribute o m apos) (e :: es) [] pos) (tSMeth C sp dvs E ta t) := by
  refine ⟨fun pins s σ H Q I h => ?_⟩
  refine PySem.W.methodCall_KW (pl := pl) (thn (he.run pins s σ H _ I h) fun u s1 ⟨x, H1, I1, rx, ex, q⟩ => ?_) ht
  subst ex
  obtain rfl : u = Value.ref C := rx
  refine getmeth_sm I1 c fun s2 I2 => ?_
  refine PySem.W.callWith_K (first := []) (h₀ := X.base) I2.ok.mod.kin c.kp (thn (ha.run pos pins s2 σ H1 _ I2 q) fun us s3 ⟨vs, H2, I3, r, q2⟩ => ⟨I3.kIn, ?_⟩) hst hpl
  exact run_fn (us := us) (vs := vs) F hr hb hd hx I3 r q2
theorem pe_smeth0 (he : PE X o ta) (c : SMet X.K C m f) (F : FnOk X.prog X.w X.K X.mg X.base CX k f fd ps sp) (hr : Room k X.A) (hb : Binds X.K fd ps ds) (hd : Vals dvs ds) (hx : Passes CX X E)
    (ht : eval (.Call (.Attribute o m apos) [] [] pos) X.env = (do
      let ov ← eval o X.env
      standAt apos.atName
      let (f, first) ← holding [ov] (getMethod ov m pl)
      callWith pos f first (backTo pos (starEach [] X.env)) (backToKw pos (keywordEach [] X.env))) := by rfl) :
    PE X (.Call (.Attribute o m apos) [] [] pos) (tSMeth C sp dvs E ta tNil) := by
  refine ⟨fun pins s σ H Q I h => ?_⟩
  refine PySem.W.methodCall_KW (pl := pl) (thn (he.run pins s σ H _ I h) fun u s1 ⟨x, H1, I1, rx, ex, q⟩ => ?_) ht
  subst ex
  obtain rfl : u = Value.ref C := rx
  refine getmeth_sm I1 c fun s2 I2 => ?_
  exact PySem.W.callWith_K0 (first := []) I2.kIn c.kp (run_fn (us := []) (vs := []) F hr hb hd hx I2 .nil q)
/-- a def that may raise, called where nothing may leave -/
theorem passF {X : Cx} : Passes (L2.CX X.prog X.w) X E0 := fun _ _ _ _ _ _ _ ⟨_, _, _, _, _, _, _, _, _, _, _, _, z⟩ => z.elim
end
end Sta
namespace Rd
open PySem PySem.Spec PyProof.Rows L2
section
variable {σ : L2.St} {H : Hp} {Q : VK} {D : Ends} {K : PySem.W.Frag}
theorem smeth {C : Addr} {sp : Sp} {dvs : List V} {E : XK} {ta : TE} {t : TA} (h : ta σ H fun x H1 => x = .ref C ∧ t σ H1 fun vs H2 => sp (vs ++ dvs) H2 Q E) : Sta.tSMeth C sp dvs E ta t σ H Q := h
theorem m0 {r : V → List V → Hp → VK → Prop} {to : TE} (h : to σ H fun x H1 => (∃ a, x = .str a) ∧ r x [] H1 Q) : tM0 r to σ H Q := h
theorem m1 {r : V → List V → Hp → VK → Prop} {to te : TE} (h : to σ H fun x H1 => (∃ a, x = .str a) ∧ te σ H1 fun y H2 => r x [y] H2 Q) : tM1 r to te σ H Q := h
theorem fmt {te : TE} (h : te σ H fun x H1 => (∃ y : Str, x = .str y ∧ y.length ≤ sizeLine ∧ Q (.str y) H1) ∨ ∃ i : Int, x = .int i ∧ i.natAbs.log2 < 1920 ∧ Q (.str (toString i)) H1) : tFmt te σ H Q := h
theorem chainP {r' : R2} {tc : TE} {y : V} {c d : Bool} (h1 : ∀ Q' : VK, Q' (.bl d) H → tc σ H fun w' H4 => r' y w' H4 Q') (h : Q (.bl (c && d)) H) : if c = true then tc σ H (fun w' H4 => r' y w' H4 Q) else Q (.bl false) H := by
  cases c with
  | true => exact h1 Q h
  | false => exact h
theorem peN {X : Cx} {e : Expr} : PE X e (fun _ _ _ => False) := ⟨fun _ _ _ _ _ _ z => z.elim⟩
theorem ptN {X : Cx} {e : Expr} : PT X e (fun _ _ _ => False) := ⟨fun _ _ _ _ _ _ z => z.elim⟩
theorem via {sp : Sp} {vs : List V} {E : XK} (Post : V → Hp → Prop) (h1 : ∀ Q' : VK, (∀ v H', Post v H' → Q' v H') → sp vs H Q' E) (h2 : ∀ v H', Post v H' → Q v H') : sp vs H Q E := h1 Q h2
end
end Rd
/-! ## counting truths in a list -/
namespace Cnt
open PySem PySem.Spec PyProof.Rows L2
theorem bools_of : ∀ {bs : List Bool} {us : List Value}, Vals (bs.map V.bl) us → us = bs.map Value.bool
  | [], _, .nil => rfl
  | b :: bs, _, .cons r rs => by
    have e1 := bools_of rs
    have e2 : _ = Value.bool b := r
    rw [e2, e1]
    rfl
def isB (k : Bool) : Value → Bool
  | .bool b => b == k
  | _ => false
theorem count_isB (k : Bool) : ∀ bs : List Bool, (bs.map Value.bool).countP (isB k) = bs.count k
  | [] => rfl
  | b :: bs => by
    rw [List.map_cons, List.countP_cons, count_isB k bs, List.count_cons]
    rfl
section
variable {X : Cx}
def rCntB (K : PySem.W.Frag) : V → List V → Hp → VK → Prop := fun x xs H Q => ∃ (p : Addr) (bs : List Bool) (k : Bool), x = .ref p ∧ xs = [.bl k] ∧ SqL K H p (bs.map V.bl) ∧ Q (.int (bs.count k : Nat)) H
theorem mt_countB : MtR X "list.count" (rCntB X.K) := by
  intro pins s σ H x xs vv us Q Inv0 rx rxs told
  obtain ⟨p, bs, k, rfl, rfl, sq, goal⟩ := told
  cases rx
  obtain ⟨u, rfl, ru⟩ := rxs.one
  have eu : u = Value.bool k := ru
  subst eu
  obtain ⟨its, rv, ⟨⟨c0, d0, dat0, sl0⟩, n, at0, ec, ed, edat⟩, len0⟩ := Inv0.list sq
  simp only at ec edat
  subst ec edat
  have es := bools_of rv
  refine call_meets PySem.F.slot_list_count ⟨_, at0, rfl⟩ PySem.F.entry_list_count (PySem.F.args_list_count_2 _ _)
    (SeqAt.list_countAt p its.toArray n d0 sl0 (.bool k) (isB k)) ⟨at0, fun y hy => ?_, ?_⟩
  · have hm : y ∈ bs.map Value.bool := by rw [← es]; simpa using hy
    obtain ⟨b, _, rfl⟩ := List.mem_map.mp hm
    exact SeqAt.EqAt.bool_bool b k
  · have en : its.toArray.toList.countP (isB k) = bs.count k := by
      show its.countP (isB k) = _
      rw [es]
      exact count_isB k bs
    refine ⟨.int (bs.count k : Nat), H, Inv0.tok _, ⟨s.toks, ?_⟩, goal⟩
    show Value.int ((its.toArray.toList.countP (isB k) : Nat) : Int) s.toks = _
    rw [en]
end
end Cnt
/-! ## comprehensions over written sources, item by item; ways joined behind an if -/
namespace Rd
open PySem PySem.Spec PyProof.Rows L2
/-- what is left of a comprehension, item by item; st says that the source stands -/
def Rem (D : Addr) (g : TG) (tt : TT) (te : TE) (vs : List Nat) (σ : L2.St) (st Q : Hp → Prop) : List V → Hp → Prop
  | [], H => st H ∧ Q H
  | x :: r, H => st H ∧ g x (wipe σ vs) H fun σ2 H2 => wipe σ2 vs = wipe σ vs ∧ tt σ2 H2 fun b H3 => if b = true then te σ2 H3 fun y H4 => ∃ acc, H4 D = some (.lst acc) ∧ acc.length < sizeLine ∧ Rem D g tt te vs σ st Q r (upd H4 D (.lst (acc ++ [y]))) else Rem D g tt te vs σ st Q r H3
section
variable {σ : L2.St} {H : Hp} {Q : VK} {K : PySem.W.Frag} {D : Addr} {g : TG} {tt : TT} {te : TE} {vs : List Nat} {st Qd : Hp → Prop}
theorem rem_st {l : List V} (h : Rem D g tt te vs σ st Qd l H) : st H := by cases l <;> exact h.1
theorem remCons {x : V} {r : List V} (h0 : st H) (h : g x (wipe σ vs) H fun σ2 H2 => wipe σ2 vs = wipe σ vs ∧ tt σ2 H2 fun b H3 => if b = true then te σ2 H3 fun y H4 => ∃ acc, H4 D = some (.lst acc) ∧ acc.length < sizeLine ∧ Rem D g tt te vs σ st Qd r (upd H4 D (.lst (acc ++ [y]))) else Rem D g tt te vs σ st Qd r H3) : Rem D g tt te vs σ st Qd (x :: r) H := ⟨h0, h⟩
theorem remNil (h0 : st H) (h : Qd H) : Rem D g tt te vs σ st Qd [] H := ⟨h0, h⟩
theorem drop_at {l : List V} {i : Nat} {x : V} (h : l[i]? = some x) : l.drop i = x :: l.drop (i + 1) := by
  obtain ⟨hi, e⟩ := List.getElem?_eq_some_iff.mp h
  rw [List.drop_eq_getElem_cons hi, e]
/-- over a written list -/
theorem lcUnrL {Qa : Addr → Hp → Prop} {a : Addr} {xs : List V} (hs : SqL K H a xs) (h : ∀ D, H D = none → Rem D g tt te vs σ (fun H' => SqL K H' a xs) (fun H' => Qa D H') xs (upd H D (.lst []))) :
    (∃ xs, SqL K H a xs) ∧ ∀ D, H D = none → ∃ W : Nat → Nat → Hp → Prop, (∃ m, W 0 m (upd H D (.lst []))) ∧ ∀ t m H, W t m H →
      ((Itl K a).stop t H ∧ Qa D H) ∨ ((Itl K a).go t H ∧ ∃ Nx : Hp → Prop, (∀ H', Nx H' → ∃ m', m' < m ∧ W (t + 1) m' H') ∧ ∀ x H', (Itl K a).yld t H x H' → g x (wipe σ vs) H' fun σ2 H2 => wipe σ2 vs = wipe σ vs ∧ tt σ2 H2 fun b H3 =>
        if b = true then te σ2 H3 fun y H4 => ∃ acc, H4 D = some (.lst acc) ∧ acc.length < sizeLine ∧ Nx (upd H4 D (.lst (acc ++ [y]))) else Nx H3) :=
  ⟨⟨_, hs⟩, fun D hD => lc_list (xs := xs) (fun i H' => Rem D g tt te vs σ (fun H' => SqL K H' a xs) (fun H' => Qa D H') (xs.drop i) H') (h D hD) (fun _ _ _ p => rem_st p) (fun i x H' hx p => by rw [drop_at hx] at p; exact p.2) fun H' p => by
    rw [List.drop_length] at p
    exact p.2⟩
/-- over a written tuple -/
theorem lcUnrT {Qa : Addr → Hp → Prop} {a : Addr} {xs : List V} (hs : SqT K H a xs) (h : ∀ D, H D = none → Rem D g tt te vs σ (fun H' => SqT K H' a xs) (fun H' => Qa D H') xs (upd H D (.lst []))) :
    (∃ xs, SqT K H a xs) ∧ ∀ D, H D = none → ∃ W : Nat → Nat → Hp → Prop, (∃ m, W 0 m (upd H D (.lst []))) ∧ ∀ t m H, W t m H →
      ((Itt K a).stop t H ∧ Qa D H) ∨ ((Itt K a).go t H ∧ ∃ Nx : Hp → Prop, (∀ H', Nx H' → ∃ m', m' < m ∧ W (t + 1) m' H') ∧ ∀ x H', (Itt K a).yld t H x H' → g x (wipe σ vs) H' fun σ2 H2 => wipe σ2 vs = wipe σ vs ∧ tt σ2 H2 fun b H3 =>
        if b = true then te σ2 H3 fun y H4 => ∃ acc, H4 D = some (.lst acc) ∧ acc.length < sizeLine ∧ Nx (upd H4 D (.lst (acc ++ [y]))) else Nx H3) :=
  ⟨⟨_, hs⟩, fun D hD => lc_tup (xs := xs) (fun i H' => Rem D g tt te vs σ (fun H' => SqT K H' a xs) (fun H' => Qa D H') (xs.drop i) H') (h D hD) (fun _ _ _ p => rem_st p) (fun i x H' hx p => by rw [drop_at hx] at p; exact p.2) fun H' p => by
    rw [List.drop_length] at p
    exact p.2⟩
/-- the ints of a range -/
def rgV (lo : Int) : Nat → List V
  | 0 => []
  | n + 1 => .int lo :: rgV (lo + 1) n
theorem rgV_at : ∀ (n : Nat) (lo : Int) (i : Nat), i < n → (rgV lo n)[i]? = some (.int (lo + i))
  | n + 1, lo, 0, _ => by simp [rgV]
  | n + 1, lo, i + 1, h => by
    show (rgV (lo + 1) n)[i]? = _
    rw [rgV_at n (lo + 1) i (by omega)]
    congr 2
    omega
theorem rgV_len : ∀ (n : Nat) (lo : Int), (rgV lo n).length = n
  | 0, _ => rfl
  | n + 1, lo => by show (rgV (lo + 1) n).length + 1 = _; rw [rgV_len n]
theorem lcUnrR {Qa : Addr → Hp → Prop} {lo : Int} {n : Nat} (h : ∀ D, H D = none → Rem D g tt te vs σ (fun _ => True) (fun H' => Qa D H') (rgV lo n) (upd H D (.lst []))) :
    ∀ D, H D = none → ∃ W : Nat → Nat → Hp → Prop, (∃ m, W 0 m (upd H D (.lst []))) ∧ ∀ t m H, W t m H →
      ((Itr lo n).stop t H ∧ Qa D H) ∨ ((Itr lo n).go t H ∧ ∃ Nx : Hp → Prop, (∀ H', Nx H' → ∃ m', m' < m ∧ W (t + 1) m' H') ∧ ∀ x H', (Itr lo n).yld t H x H' → g x (wipe σ vs) H' fun σ2 H2 => wipe σ2 vs = wipe σ vs ∧ tt σ2 H2 fun b H3 =>
        if b = true then te σ2 H3 fun y H4 => ∃ acc, H4 D = some (.lst acc) ∧ acc.length < sizeLine ∧ Nx (upd H4 D (.lst (acc ++ [y]))) else Nx H3) :=
  fun D hD => lc_range (lo := lo) (n := n) (fun i H' => Rem D g tt te vs σ (fun _ => True) (fun H' => Qa D H') ((rgV lo n).drop i) H') (h D hD) (fun i H' hi p => by rw [drop_at (rgV_at n lo i hi)] at p; exact p.2) fun H' p => by
    rw [List.drop_of_length_le (by rw [rgV_len]; exact Nat.le_refl _)] at p
    exact p.2
theorem yes {q : Bool → Hp → Prop} (h : q true H) : tYes σ H q := h
/-- two ways of an if that meet -/
theorem ifJ {D : Ends} {c : TT} {t u : TS} (J : L2.St → Hp → Prop) (h1 : (∀ σ' H', J σ' H' → D.nx σ' H') → tIfS c t u D σ H) (h2 : ∀ σ' H', J σ' H' → D.nx σ' H') : tIfS c t u D σ H := h1 h2
/-- a heap known by facts alone, from here on -/
theorem comp {t : TS} {D : Ends} (P : Hp → Prop) (h0 : P H) (h : ∀ H', P H' → t D σ H') : t D σ H := h H h0
theorem truB {b : Bool} (e : b = true) (h : Q (.bl true) H) : Q (.bl b) H := by rw [e]; exact h
theorem cnt3 {p : Addr} {x y z k : Bool} (e : SqL K H p [.bl x, .bl y, .bl z]) (h : Q (.int (([x, y, z].count k : Nat) : Int)) H) : Cnt.rCntB K (.ref p) [.bl k] H Q := ⟨p, [x, y, z], k, rfl, rfl, e, h⟩
theorem feqF {a b c d : Int} (h1 : a = b) (h2 : c = d) : (!(decide (V.int a = V.int b) && decide (V.int c = V.int d))) = false := by
  rw [h1, h2, decide_eq_true rfl, decide_eq_true rfl]; rfl
theorem feqT {a b c d : Int} (h1 : a = b) (h2 : c = d) : (decide (V.int a = V.int b) && decide (V.int c = V.int d)) = true := by
  rw [h1, h2, decide_eq_true rfl, decide_eq_true rfl]; rfl
theorem neB {x y : Bool} (h : x = y) : (!decide (V.bl x = V.bl y)) = false := by rw [h, decide_eq_true rfl]; rfl
theorem tri (a b c d : Int) : (!decide (V.int (([decide (a < c ∨ a = c ∧ b < d), (decide (V.int a = V.int c) && decide (V.int b = V.int d)), decide (c < a ∨ c = a ∧ d < b)].count true : Nat) : Int) = V.int 1)) = false := by
  have e1 : decide (V.int a = V.int c) = decide (a = c) := by simp only [V.int.injEq]
  have e2 : decide (V.int b = V.int d) = decide (b = d) := by simp only [V.int.injEq]
  rw [e1, e2]
  rcases (by omega : a < c ∨ c < a ∨ (a = c ∧ b < d) ∨ (a = c ∧ d < b) ∨ (a = c ∧ b = d)) with h | h | ⟨h, g⟩ | ⟨h, g⟩ | ⟨h, g⟩
  · rw [decide_eq_true (show a < c ∨ a = c ∧ b < d by omega), decide_eq_false (show ¬ a = c by omega), decide_eq_false (show ¬ (c < a ∨ c = a ∧ d < b) by omega)]; rfl
  · rw [decide_eq_false (show ¬ (a < c ∨ a = c ∧ b < d) by omega), decide_eq_false (show ¬ a = c by omega), decide_eq_true (show (c < a ∨ c = a ∧ d < b) by omega)]; rfl
  · rw [decide_eq_true (show a < c ∨ a = c ∧ b < d by omega), decide_eq_false (show ¬ b = d by omega), Bool.and_false, decide_eq_false (show ¬ (c < a ∨ c = a ∧ d < b) by omega)]; rfl
  · rw [decide_eq_false (show ¬ (a < c ∨ a = c ∧ b < d) by omega), decide_eq_false (show ¬ b = d by omega), Bool.and_false, decide_eq_true (show (c < a ∨ c = a ∧ d < b) by omega)]; rfl
  · rw [decide_eq_false (show ¬ (a < c ∨ a = c ∧ b < d) by omega), decide_eq_true h, decide_eq_true g, decide_eq_false (show ¬ (c < a ∨ c = a ∧ d < b) by omega)]; rfl
theorem stepLt {a b c d t : Int} (h : 0 < t) : decide (a * t < c * t ∨ a * t = c * t ∧ b * t < d * t) = decide (a < c ∨ a = c ∧ b < d) := by
  have m1 : a * t < c * t ↔ a < c := Int.mul_lt_mul_right h
  have m2 : b * t < d * t ↔ b < d := Int.mul_lt_mul_right h
  have m3 : a * t = c * t ↔ a = c := ⟨fun e => Int.eq_of_mul_eq_mul_right (by omega) e, fun e => by rw [e]⟩
  rw [decide_eq_decide, m1, m2, m3]
theorem stepGt {a b c d t : Int} (h : 0 < t) : decide (a * (0 - t) < c * (0 - t) ∨ a * (0 - t) = c * (0 - t) ∧ b * (0 - t) < d * (0 - t)) = decide (c < a ∨ c = a ∧ d < b) := by
  have n : ∀ x : Int, x * (0 - t) = -(x * t) := fun x => by rw [Int.zero_sub, Int.mul_neg]
  have m1 : a * (0 - t) < c * (0 - t) ↔ c < a := by rw [n, n, Int.neg_lt_neg_iff]; exact Int.mul_lt_mul_right h
  have m2 : b * (0 - t) < d * (0 - t) ↔ d < b := by rw [n, n, Int.neg_lt_neg_iff]; exact Int.mul_lt_mul_right h
  have m3 : a * (0 - t) = c * (0 - t) ↔ c = a := ⟨fun e => (Int.eq_of_mul_eq_mul_right (by omega) e).symm, fun e => by rw [e]⟩
  rw [decide_eq_decide, m1, m2, m3]
end
end Rd
/-! ## schemes: words, dicts, written tuples, calls by keywords -/
namespace Rd
open PySem PySem.Spec PyProof.Rows L2
section
variable {σ : L2.St} {H : Hp} {Q : VK} {D : Ends} {K : PySem.W.Frag}
theorem mkK {C : Addr} {m : Nat} {sp : Sp} {gV : List V → List V → List V} {E : XK} {tk : TA} (h : tk σ H fun zs H2 => ([] : List V).length = 0 ∧ zs.length = m ∧ ∀ x dx, H2 x = none → H2 dx = none → dx ≠ x →
    sp (gV (.ref x :: []) zs) (upd (upd H2 dx (.own x)) x (.ins C dx [])) (fun v H3 => v = .non ∧ Q (.ref x) H3) E) : tMakeK C 0 m sp gV E tNil tk σ H Q := h
theorem dget {td ty : TE} (h : td σ H fun x H1 => ty σ H1 fun y H2 => ∃ a v, x = .ref a ∧ DGet H2 a y (some v) ∧ Q v H2) : tDGet td ty σ H Q := h
theorem dget2 {a : Addr} {kvs : List (Key × V)} {z : Str} {v : V} {R : V → Prop} (e : H a = some (.dK kvs)) (l : valV kvs (.inr z) = some v) (h : R v) : ∃ a' v, V.ref a = .ref a' ∧ DGet H a' (.str z) (some v) ∧ R v :=
  ⟨a, v, rfl, by have := DGet.k (k := Sum.inr z) e; rw [l] at this; exact this, h⟩
/-- a written tuple, whatever the heap -/
def SqTK (K : PySem.W.Frag) (a : Addr) (xs : List V) : Prop := ∀ H, SqT K H a xs
theorem SqTK.get {a : Addr} {xs : List V} (h : SqTK K a xs) : SqT K H a xs := h H
theorem inW {s : Str} {ws : List Str} (h : s ∈ ws) : inV (.str s) (ws.map V.str) = true := by
  unfold inV
  rw [List.any_eq_true]
  exact ⟨.str s, List.mem_map.mpr ⟨s, h, rfl⟩, by simp [eqV]⟩
theorem pickAny {a : Addr} {xs : List V} {d : Int} (e : SqL K H a xs) (h0 : 0 ≤ d) (h1 : d < (xs.length : Int)) (k : ∀ v, v ∈ xs → Q v H) : rIxL K (.ref a) (.int d) H Q := by
  obtain ⟨j, rfl⟩ : ∃ j : Nat, d = (j : Int) := ⟨d.toNat, by omega⟩
  have hj : j < xs.length := by omega
  exact ixL e (atI_nat (List.getElem?_eq_getElem hj)) (k _ (List.getElem_mem hj))
theorem bits {to : TE} (h : to σ H fun x H1 => ∃ i, x = .int i ∧ Q (.int (Builtin.Int.intBits i : Nat)) H1) : tBits to σ H Q := h
theorem tru {ta : TE} {q : Bool → Hp → Prop} (h : ta σ H fun x H' => ∃ k, TruV K x H' k ∧ q k H') : (fun σ H Q => ta σ H fun x H' => ∃ k, TruV K x H' k ∧ Q k H' : TT) σ H q := h
theorem truI {i : Int} : TruV K (.int i) H (i != 0) := rfl
theorem rng2 {ta : TA} {R : It → Hp → Prop} (h : ta σ H fun vs H1 => ∃ i j : Int, vs = [.int i, .int j] ∧ (-(2 ^ 62) ≤ i ∧ i < 2 ^ 62 ∧ -(2 ^ 62) ≤ j ∧ j < 2 ^ 62) ∧ R (Itr i (j - i).toNat) H1) : iRng2 ta σ H R := h
theorem notF {b : Bool} (h : b = true) : (!b) = false := by rw [h]; rfl
theorem inT {p : Addr} {x : V} {xs : List V} (e : SqL K H p xs ∨ SqT K H p xs) (f1 : flatV x = true) (f2 : xs.all flatV = true) (h : Q (.bl (inV x xs)) H) : rIn K false x (.ref p) H Q := ⟨p, xs, rfl, e, f1, f2, h⟩
theorem kt_int_int {K : PySem.W.Frag} : PySem.W.kitOne K (.type "int") (.type "int") = some true := kit_ty (by decide +kernel)
theorem kt_int_bool {K : PySem.W.Frag} : PySem.W.kitOne K (.type "int") (.type "bool") = some false := kit_ty (by decide +kernel)
theorem kt_int_str {K : PySem.W.Frag} : PySem.W.kitOne K (.type "int") (.type "str") = some false := kit_ty (by decide +kernel)
theorem kt_int_tuple {K : PySem.W.Frag} : PySem.W.kitOne K (.type "int") (.type "tuple") = some false := kit_ty (by decide +kernel)
theorem kt_int_list {K : PySem.W.Frag} : PySem.W.kitOne K (.type "int") (.type "list") = some false := kit_ty (by decide +kernel)
theorem kt_int_dict {K : PySem.W.Frag} : PySem.W.kitOne K (.type "int") (.type "dict") = some false := kit_ty (by decide +kernel)
theorem kt_bool_int {K : PySem.W.Frag} : PySem.W.kitOne K (.type "bool") (.type "int") = some true := kit_ty (by decide +kernel)
theorem kt_bool_bool {K : PySem.W.Frag} : PySem.W.kitOne K (.type "bool") (.type "bool") = some true := kit_ty (by decide +kernel)
theorem kt_bool_str {K : PySem.W.Frag} : PySem.W.kitOne K (.type "bool") (.type "str") = some false := kit_ty (by decide +kernel)
theorem kt_bool_tuple {K : PySem.W.Frag} : PySem.W.kitOne K (.type "bool") (.type "tuple") = some false := kit_ty (by decide +kernel)
theorem kt_bool_list {K : PySem.W.Frag} : PySem.W.kitOne K (.type "bool") (.type "list") = some false := kit_ty (by decide +kernel)
theorem kt_bool_dict {K : PySem.W.Frag} : PySem.W.kitOne K (.type "bool") (.type "dict") = some false := kit_ty (by decide +kernel)
theorem kt_str_int {K : PySem.W.Frag} : PySem.W.kitOne K (.type "str") (.type "int") = some false := kit_ty (by decide +kernel)
theorem kt_str_bool {K : PySem.W.Frag} : PySem.W.kitOne K (.type "str") (.type "bool") = some false := kit_ty (by decide +kernel)
theorem kt_str_str {K : PySem.W.Frag} : PySem.W.kitOne K (.type "str") (.type "str") = some true := kit_ty (by decide +kernel)
theorem kt_str_tuple {K : PySem.W.Frag} : PySem.W.kitOne K (.type "str") (.type "tuple") = some false := kit_ty (by decide +kernel)
theorem kt_str_list {K : PySem.W.Frag} : PySem.W.kitOne K (.type "str") (.type "list") = some false := kit_ty (by decide +kernel)
theorem kt_str_dict {K : PySem.W.Frag} : PySem.W.kitOne K (.type "str") (.type "dict") = some false := kit_ty (by decide +kernel)
theorem kt_NoneType_int {K : PySem.W.Frag} : PySem.W.kitOne K (.type "NoneType") (.type "int") = some false := kit_ty (by decide +kernel)
theorem kt_NoneType_bool {K : PySem.W.Frag} : PySem.W.kitOne K (.type "NoneType") (.type "bool") = some false := kit_ty (by decide +kernel)
theorem kt_NoneType_str {K : PySem.W.Frag} : PySem.W.kitOne K (.type "NoneType") (.type "str") = some false := kit_ty (by decide +kernel)
theorem kt_NoneType_tuple {K : PySem.W.Frag} : PySem.W.kitOne K (.type "NoneType") (.type "tuple") = some false := kit_ty (by decide +kernel)
theorem kt_NoneType_list {K : PySem.W.Frag} : PySem.W.kitOne K (.type "NoneType") (.type "list") = some false := kit_ty (by decide +kernel)
theorem kt_NoneType_dict {K : PySem.W.Frag} : PySem.W.kitOne K (.type "NoneType") (.type "dict") = some false := kit_ty (by decide +kernel)
theorem kt_tuple_int {K : PySem.W.Frag} : PySem.W.kitOne K (.type "tuple") (.type "int") = some false := kit_ty (by decide +kernel)
theorem kt_tuple_bool {K : PySem.W.Frag} : PySem.W.kitOne K (.type "tuple") (.type "bool") = some false := kit_ty (by decide +kernel)
theorem kt_tuple_str {K : PySem.W.Frag} : PySem.W.kitOne K (.type "tuple") (.type "str") = some false := kit_ty (by decide +kernel)
theorem kt_tuple_tuple {K : PySem.W.Frag} : PySem.W.kitOne K (.type "tuple") (.type "tuple") = some true := kit_ty (by decide +kernel)
theorem kt_tuple_list {K : PySem.W.Frag} : PySem.W.kitOne K (.type "tuple") (.type "list") = some false := kit_ty (by decide +kernel)
theorem kt_tuple_dict {K : PySem.W.Frag} : PySem.W.kitOne K (.type "tuple") (.type "dict") = some false := kit_ty (by decide +kernel)
theorem kt_list_int {K : PySem.W.Frag} : PySem.W.kitOne K (.type "list") (.type "int") = some false := kit_ty (by decide +kernel)
theorem kt_list_bool {K : PySem.W.Frag} : PySem.W.kitOne K (.type "list") (.type "bool") = some false := kit_ty (by decide +kernel)
theorem kt_list_str {K : PySem.W.Frag} : PySem.W.kitOne K (.type "list") (.type "str") = some false := kit_ty (by decide +kernel)
theorem kt_list_tuple {K : PySem.W.Frag} : PySem.W.kitOne K (.type "list") (.type "tuple") = some false := kit_ty (by decide +kernel)
theorem kt_list_list {K : PySem.W.Frag} : PySem.W.kitOne K (.type "list") (.type "list") = some true := kit_ty (by decide +kernel)
theorem kt_list_dict {K : PySem.W.Frag} : PySem.W.kitOne K (.type "list") (.type "dict") = some false := kit_ty (by decide +kernel)
theorem kt_dict_int {K : PySem.W.Frag} : PySem.W.kitOne K (.type "dict") (.type "int") = some false := kit_ty (by decide +kernel)
theorem kt_dict_bool {K : PySem.W.Frag} : PySem.W.kitOne K (.type "dict") (.type "bool") = some false := kit_ty (by decide +kernel)
theorem kt_dict_str {K : PySem.W.Frag} : PySem.W.kitOne K (.type "dict") (.type "str") = some false := kit_ty (by decide +kernel)
theorem kt_dict_tuple {K : PySem.W.Frag} : PySem.W.kitOne K (.type "dict") (.type "tuple") = some false := kit_ty (by decide +kernel)
theorem kt_dict_list {K : PySem.W.Frag} : PySem.W.kitOne K (.type "dict") (.type "list") = some false := kit_ty (by decide +kernel)
theorem kt_dict_dict {K : PySem.W.Frag} : PySem.W.kitOne K (.type "dict") (.type "dict") = some true := kit_ty (by decide +kernel)
theorem inW_iff {s : Str} {ws : List Str} : inV (.str s) (ws.map V.str) = decide (s ∈ ws) := by
  by_cases h : s ∈ ws
  · rw [inW h, decide_eq_true h]
  · rw [decide_eq_false h, Bool.eq_false_iff]
    intro e
    unfold inV at e
    rw [List.any_eq_true] at e
    obtain ⟨x, hx, e⟩ := e
    obtain ⟨t, ht, rfl⟩ := List.mem_map.mp hx
    have : t = s := by simpa [eqV] using e
    exact h (this ▸ ht)
theorem flatW (ws : List Str) : (ws.map V.str).all flatV = true := by
  rw [List.all_eq_true]
  intro x hx
  obtain ⟨t, _, rfl⟩ := List.mem_map.mp hx
  rfl
/-- a loop over a tuple that is known whole, turn by turn -/
def unrT (K : PySem.W.Frag) (a : Addr) (all : List V) (g : TG) (tb : TS) (D : Ends) : List V → L2.St → Hp → Prop
  | [], σ, H => D.nx σ H
  | x :: xs, σ, H => g x σ H fun σ2 H2 => tb { D with nx := fun σ' H' => SqT K H' a all ∧ unrT K a all g tb D xs σ' H', ct := fun σ' H' => SqT K H' a all ∧ unrT K a all g tb D xs σ' H', bk := D.nx } σ2 H2
theorem unrollT {a : Addr} {all : List V} {g : TG} {tb : TS} (h0 : SqT K H a all) (h : unrT K a all g tb D all σ H) :
    (∃ xs, SqT K H a xs) ∧ ∃ W : Nat → Nat → L2.St → Hp → Prop, (∃ m, W 0 m σ H) ∧ ∀ i m σ H, W i m σ H →
      ((Itt K a).stop i H ∧ D.nx σ H) ∨ ((Itt K a).go i H ∧ ∃ N : L2.St → Hp → Prop, (∀ σ' H', N σ' H' → ∃ m', m' < m ∧ W (i + 1) m' σ' H') ∧ ∀ x H', (Itt K a).yld i H x H' → g x σ H' fun σ2 H2 => tb { D with nx := N, ct := N, bk := D.nx } σ2 H2) := by
  refine ⟨⟨_, h0⟩, for_tup (xs := all) (fun i σ H => SqT K H a all ∧ unrT K a all g tb D (all.drop i) σ H) ⟨h0, h⟩ (fun i σ H _ p => p.1) (fun i x σ H hx p => ?_) (fun σ H p => ?_)⟩
  · have q := p.2
    rw [drop_at hx] at q
    exact q
  · have q := p.2
    rw [List.drop_length] at q
    exact q
theorem unrTCons {a : Addr} {all : List V} {g : TG} {tb : TS} {x : V} {xs : List V}
    (h : g x σ H fun σ2 H2 => tb { D with nx := fun σ' H' => SqT K H' a all ∧ unrT K a all g tb D xs σ' H', ct := fun σ' H' => SqT K H' a all ∧ unrT K a all g tb D xs σ' H', bk := D.nx } σ2 H2) : unrT K a all g tb D (x :: xs) σ H := h
theorem unrTNil {a : Addr} {all : List V} {g : TG} {tb : TS} (h : D.nx σ H) : unrT K a all g tb D [] σ H := h
/-- five written texts as keys -/
theorem disp5 {t1 t2 t3 t4 t5 : TE} {v1 v2 v3 v4 v5 : V} {k1 k2 k3 k4 k5 : Str} (h1 : ∀ H (R : VK), R v1 H → t1 σ H R) (h2 : ∀ H (R : VK), R v2 H → t2 σ H R) (h3 : ∀ H (R : VK), R v3 H → t3 σ H R) (h4 : ∀ H (R : VK), R v4 H → t4 σ H R) (h5 : ∀ H (R : VK), R v5 H → t5 σ H R)
    (h : ∀ p, H p = none → Q (.ref p) (upd H p (.dK (mergeK [] [(.inr k1, v1), (.inr k2, v2), (.inr k3, v3), (.inr k4, v4), (.inr k5, v5)])))) : tDisp [(tC (.str k1), t1), (tC (.str k2), t2), (tC (.str k3), t3), (tC (.str k4), t4), (tC (.str k5), t5)] σ H Q := by
  intro p np
  refine h1 _ _ (h2 _ _ (h3 _ _ (h4 _ _ (h5 _ _ ?_))))
  refine ⟨upd_same, [(.inr k1, v1), (.inr k2, v2), (.inr k3, v3), (.inr k4, v4), (.inr k5, v5)], rfl, Nat.le_of_ble_eq_true rfl, ?_⟩
  rw [upd_upd]
  exact h p np
theorem ixTK {X : Cx} {K : PySem.W.Frag} (e : X.K = K) : IxR X (rIxT K) := e ▸ ix_tup
theorem ixLK {X : Cx} {K : PySem.W.Frag} (e : X.K = K) : IxR X (rIxL K) := e ▸ ix_list
theorem tp0 {R : List (V × V) → Hp → Prop} (h : R [] H) : tPairs [] σ H R := h
theorem tp1 {tk tv : TE} {r : List (TE × TE)} {R : List (V × V) → Hp → Prop} (h : tk σ H fun x H1 => tv σ H1 fun y H2 => tPairs r σ H2 fun ps H3 => R ((x, y) :: ps) H3) : tPairs ((tk, tv) :: r) σ H R := h
theorem callS {sp : Sp} {E : L2.St → XK} {t : TA} (h : t σ H fun vs H1 => sp vs H1 Q (E σ)) : tCallS sp E t σ H Q := h
end
end Rd
/-! ## slices, lists again and again, lists of truths -/
namespace Rd
open PySem PySem.Spec PyProof.Rows L2
section
variable {σ : L2.St} {H : Hp} {Q : VK} {K : PySem.W.Frag}
theorem sl {r : V → Option Int → Option Int → Hp → VK → Prop} {te : TE} {tl th : TO} (h : te σ H fun x H1 => tl σ H1 fun l H2 => th σ H2 fun u H3 => r x l u H3 Q) : tSl r te tl th σ H Q := h
theorem noPart {R : Option Int → Hp → Prop} (h : R none H) : tNoPart σ H R := h
theorem part {te : TE} {R : Option Int → Hp → Prop} (h : te σ H fun x H1 => ∃ i, x = .int i ∧ R (some i) H1) : tPart te σ H R := h
theorem cut_take {xs : List V} {k : Nat} (h : k ≤ xs.length) : cutV xs none (some (k : Int)) = xs.take k := by
  unfold cutV
  have e0 : HT.sIx xs.length 0 none = 0 := rfl
  have e1 : HT.sIx xs.length xs.length (some (k : Int)) = k := by
    unfold HT.sIx
    have z : ¬ ((k : Int) < 0) := by omega
    simp [z]
    omega
  rw [e0, e1, List.drop_zero, Nat.sub_zero]
theorem dp_bools : ∀ (H : Hp) (bs : List Bool), DpAll K H (bs.map V.bl) (bs.map PyData.bool)
  | _, [] => .nil
  | H, _ :: r => .cons (.bl _) (dp_bools H r)
theorem dp_listB {H : Hp} {a : Addr} {bs : List Bool} (h : SqL K H a (bs.map V.bl)) : Dp K H (.ref a) (.list (bs.map PyData.bool)) := .lst h (dp_bools H bs)
theorem can_bools : ∀ bs : List Bool, PyData.canLayAll0 (bs.map PyData.bool) = true
  | [] => by simp [PyData.canLayAll0]
  | _ :: r => by simp only [List.map_cons, PyData.canLayAll0, PyData.canLay0, can_bools r, Bool.and_self]
theorem dep_bools : ∀ bs : List Bool, PyData.depthAll (bs.map PyData.bool) = 0
  | [] => by simp [PyData.depthAll]
  | _ :: r => by simp only [List.map_cons, PyData.depthAll, PyData.depth, dep_bools r, Nat.max_self]
theorem shaped_listB (bs : List Bool) : SeqAt.shaped (.list (bs.map PyData.bool)) = true := by
  simp only [SeqAt.shaped, PyData.canLay0, can_bools, PyData.depth, dep_bools]
  decide
theorem eqvAll_bools : ∀ as bs : List Bool, PyData.eqvAll (as.map PyData.bool) (bs.map PyData.bool) = decide (as = bs)
  | [], [] => by simp [PyData.eqvAll]
  | [], _ :: _ => by simp [PyData.eqvAll]
  | _ :: _, [] => by simp [PyData.eqvAll]
  | x :: r, y :: q => by
    simp only [List.map_cons, PyData.eqvAll, PyData.eqv, eqvAll_bools r q]
    cases x <;> cases y <;> simp
theorem eqv_listB (as bs : List Bool) : PyData.eqv (.list (as.map PyData.bool)) (.list (bs.map PyData.bool)) = decide (as = bs) := by
  simp only [PyData.eqv, eqvAll_bools]
/-- the parts of a set: a list, two ints, a list -/
def partsD (e r : List Int) (s p : Int) : PyData := .tuple [.list (e.map PyData.int), .int s, .int p, .list (r.map PyData.int)]
theorem dp_parts {H : Hp} {q a b : Addr} {e r : List Int} {s p : Int} (h : SqT K H q [.ref a, .int s, .int p, .ref b]) (ha : SqL K H a (e.map V.int)) (hb : SqL K H b (r.map V.int)) : Dp K H (.ref q) (partsD e r s p) :=
  .tup h (.cons (dp_listI ha) (.cons (.int _) (.cons (.int _) (.cons (dp_listI hb) .nil))))
theorem shaped_parts (e r : List Int) (s p : Int) : SeqAt.shaped (partsD e r s p) = true := by
  simp only [partsD, SeqAt.shaped, PyData.canLay0, PyData.canLayAll0, can_ints, PyData.depth, PyData.depthAll, dep_ints]
  decide
theorem eqv_parts (e r e' r' : List Int) (s p s' p' : Int) : PyData.eqv (partsD e r s p) (partsD e' r' s' p') = decide (e = e' ∧ s = s' ∧ p = p' ∧ r = r') := by
  simp only [partsD, PyData.eqv, PyData.eqvAll, eqvAll_ints, Bool.and_true]
  rw [Bool.eq_iff_iff]
  simp
end
/-! what a while's test asks grows with what is wished -/
def ME (t : TE) : Prop := ∀ (σ : L2.St) (H : Hp) (Q Q' : VK), (∀ v H1, Q v H1 → Q' v H1) → t σ H Q → t σ H Q'
def MT (c : TT) : Prop := ∀ (σ : L2.St) (H : Hp) (R R' : Bool → Hp → Prop), (∀ b H1, R b H1 → R' b H1) → c σ H R → c σ H R'
def MR (f : R2) : Prop := ∀ (x y : V) (H : Hp) (Q Q' : VK), (∀ v H1, Q v H1 → Q' v H1) → f x y H Q → f x y H Q'
def MA (t : TA) : Prop := ∀ (σ : L2.St) (H : Hp) (Q Q' : List V → Hp → Prop), (∀ v H1, Q v H1 → Q' v H1) → t σ H Q → t σ H Q'
theorem mVar {i : Nat} : ME (tVar i) := fun _ _ _ _ h ⟨v, e, q⟩ => ⟨v, e, h _ _ q⟩
theorem mC {v : V} : ME (tC v) := fun _ _ _ _ h q => h _ _ q
theorem mOp {r : R2} {a b : TE} (f : MR r) (ha : ME a) (hb : ME b) : ME (tOp r a b) := fun σ H _ _ h z => ha σ H _ _ (fun x H1 z1 => hb σ H1 _ _ (fun y H2 z2 => f x y H2 _ _ h z2) z1) z
theorem mI0 {g : Int → Int → V} : MR (rI0 g) := fun _ _ _ _ _ h ⟨i, j, e, e', q⟩ => ⟨i, j, e, e', h _ _ q⟩
theorem mI {C : Int → Int → Prop} {g : Int → Int → V} : MR (rI C g) := fun _ _ _ _ _ h ⟨i, j, e, e', c, q⟩ => ⟨i, j, e, e', c, h _ _ q⟩
theorem mIxL {K : PySem.W.Frag} : MR (rIxL K) := fun _ _ _ _ _ h ⟨p, xs, i, v, e, e', s, l, q⟩ => ⟨p, xs, i, v, e, e', s, l, h _ _ q⟩
theorem mEq : MR rEq := fun _ _ _ _ _ h ⟨e, q⟩ => ⟨e, h _ _ q⟩
theorem mNil : MA tNil := fun _ _ _ _ h q => h _ _ q
theorem mCons {a : TE} {t : TA} (ha : ME a) (ht : MA t) : MA (tCons a t) := fun σ H _ _ h z => ha σ H _ _ (fun x H1 z1 => ht σ H1 _ _ (fun vs H2 z2 => h _ _ z2) z1) z
theorem mLen {K : PySem.W.Frag} {t : TA} (ht : MA t) : ME (tCB (fun xs H Q => ∃ p ys, xs = [V.ref p] ∧ (SqL K H p ys ∨ SqT K H p ys) ∧ Q (V.int ys.length) H) t) := fun σ H _ _ h z => ht σ H _ _ (fun vs H1 ⟨p, ys, e, s, q⟩ => ⟨p, ys, e, s, h _ _ q⟩) z
theorem mTest {t : TE} (ht : ME t) : MT (tTest t) := fun σ H _ _ h z => ht σ H _ _ (fun x H1 ⟨k, e, q⟩ => ⟨k, e, h _ _ q⟩) z
theorem mAnd {t u : TT} (ht : MT t) (hu : MT u) : MT (tAnd t u) := fun σ H _ _ h z => ht σ H _ _ (fun b H1 z1 => by
  by_cases hb : b = true
  · rw [if_pos hb] at z1 ⊢
    exact hu σ H1 _ _ h z1
  · rw [if_neg hb] at z1 ⊢
    exact h _ _ z1) z
/-- a field's reading within a comprehension -/
theorem pe_fldK {X : Cx} {K : PySem.W.Frag} {e : PySem.Expr} {f : PySem.Str} {pos : PySem.Pos} {ta : TE} (ek : X.K = K) (h : PE X e ta) (hb : PySem.attributeBase e f X.env (PySem.eval e X.env) = PySem.eval e X.env) : PE X (e.Attribute f pos) (tFld K ta f) := ek ▸ pe_fld h hb
theorem flat_intsL (ns : List Int) : (ns.map V.int).all flatV = true := by
  rw [List.all_eq_true]
  intro v hv
  obtain ⟨n, _, rfl⟩ := List.mem_map.mp hv
  rfl
theorem inV_intsL (i : Int) (ns : List Int) : inV (.int i) (ns.map V.int) = decide (i ∈ ns) := by
  unfold inV
  rw [List.any_map]
  induction ns with
  | nil => rfl
  | cons n ns ih =>
    rw [List.any_cons, ih]
    show (eqV (.int n) (.int i) || _) = _
    have e : eqV (.int n) (.int i) = decide (n = i) := by first | (simp [eqV]; done) | (simp [eqV]; rfl)
    rw [e]
    by_cases h : n = i
    · subst h; simp
    · have h' : ¬ i = n := fun z => h z.symm
      simp [h, h', List.mem_cons]
theorem mapAppL {ns : List Int} {v : Int} : ns.map V.int ++ [V.int v] = (ns ++ [v]).map V.int := by simp
theorem op_inK {X : Cx} {K : PySem.W.Frag} (e : X.K = K) : OpR X (PySem.compareOp .In) (rIn K false) := e ▸ op_in_seq
end Rd
/-! ## several handlers; a drawn item of a written tuple -/
namespace Rd
open PySem PySem.Spec PyProof.Rows L2
theorem wmT {K : PySem.W.Frag} {Wout : WX} {D : Ends} {c : Value} {ts : Addr → Value → Option Addr → TS} {r : List (Value × (Addr → Value → Option Addr → TS))} {cls : Value} {d : Option Addr} {σ : L2.St} {H : Hp}
    (e : PySem.W.exmOne K cls c = some true) (h : ∀ a, H a = none → ts a cls d D σ H) : wMany K Wout D ((c, ts) :: r) cls d σ H := ⟨true, e, fun _ => h, fun q => Bool.noConfusion q⟩
theorem wmF {K : PySem.W.Frag} {Wout : WX} {D : Ends} {c : Value} {ts : Addr → Value → Option Addr → TS} {r : List (Value × (Addr → Value → Option Addr → TS))} {cls : Value} {d : Option Addr} {σ : L2.St} {H : Hp}
    (e : PySem.W.exmOne K cls c = some false) (h : wMany K Wout D r cls d σ H) : wMany K Wout D ((c, ts) :: r) cls d σ H := ⟨false, e, fun q => Bool.noConfusion q, fun _ => h⟩
theorem pickT (P : V → Prop) {K : PySem.W.Frag} {H : Hp} {a : Addr} {xs : List V} {d : Int} {Q : VK} (e : SqT K H a xs) (hm : ∀ v ∈ xs, P v) (h0 : 0 ≤ d) (h1 : d < (xs.length : Int))
    (k : ∀ v, P v → Q v H) : rIxT K (.ref a) (.int d) H Q := by
  obtain ⟨j, rfl⟩ : ∃ j : Nat, d = (j : Int) := ⟨d.toNat, by omega⟩
  have hj : j < xs.length := by omega
  exact ixT e (atI_nat (List.getElem?_eq_getElem hj)) (k _ (hm _ (List.getElem_mem hj)))
theorem pickTH (P : Hp → V → Prop) {K : PySem.W.Frag} {H : Hp} {a : Addr} {xs : List V} {d : Int} {Q : VK} (e : SqT K H a xs) (hm : ∀ v ∈ xs, P H v) (h0 : 0 ≤ d) (h1 : d < (xs.length : Int))
    (k : ∀ v, P H v → Q v H) : rIxT K (.ref a) (.int d) H Q := pickT (P H) e hm h0 h1 k
/-- with what the place says -/
theorem pickTd (P : V → Prop) {K : PySem.W.Frag} {H : Hp} {a : Addr} {xs : List V} {d : Int} {Q : VK} (e : SqT K H a xs) (h0 : 0 ≤ d) (h1 : d < (xs.length : Int)) (hm : ∀ (j : Nat) (v : V), xs[j]? = some v → d = (j : Int) → P v)
    (k : ∀ v, P v → Q v H) : rIxT K (.ref a) (.int d) H Q := by
  obtain ⟨j, rfl⟩ : ∃ j : Nat, d = (j : Int) := ⟨d.toNat, by omega⟩
  have hj : j < xs.length := by omega
  exact ixT e (atI_nat (List.getElem?_eq_getElem hj)) (k _ (hm j _ (List.getElem?_eq_getElem hj) rfl))
end Rd
/-! calls of an instance without arguments -/
namespace Own
open PySem PySem.Spec PyProof.Rows L2
theorem pe_callI0 {X : Cx} {CX : CXT} {k : Nat} {g C : Addr} {sp : Sp} {E : XK} {fe : Expr} {tf : TE} {pos : Pos} (hf : PE X fe tf) (c : StX.CallO X.K C g) (F : FnR X.prog X.w X.K X.mg X.base CX k g sp) (hr : Room k X.A) (hx : Passes CX X E)
    (ht : eval (.Call fe [] [] pos) X.env = (do callWith pos (← eval fe X.env) [] (backTo pos (starEach [] X.env)) (backToKw pos (keywordEach [] X.env))) := by rfl) : PE X (.Call fe [] [] pos) (tCallI C sp E tf tNil) := by
  refine ⟨fun pins s σ H Q I h => Call_ (thn (hf.run pins s σ H _ I h) fun u s1 z => ?_) ht⟩
  obtain ⟨y, H1, I1, ry, a, rfl, hi, q2⟩ := z
  cases ry
  refine StX.callO_of (args := backTo pos (starEach [] X.env)) rfl ?_
  obtain ⟨od, J⟩ : ∃ od, PySem.W.InstAt s1.heap a (PySem.W.instObj C hi.choose) C od := inst I1 hi.choose_spec.choose_spec
  refine wpAny_pure ?_
  exact ⟨⟨C, _, od, J, rfl⟩, StX.run_callO c F hr hx I1 (.inr hi) .nil q2⟩
end Own
namespace Own
open PySem PySem.Spec PyProof.Rows L2
/-- o[i] by the own __getitem__ -/
theorem pe_item {X : Cx} {CX : CXT} {k : Nat} {f C : Addr} {fd : FuncData} {ps : List Str} {sp : Sp} {E : XK} {a b : Expr} {ta tb : TE} {pos : Pos} (F : FnOk X.prog X.w X.K X.mg X.base CX k f fd ps sp) (hr : Room (k + 1) X.A) (B : Sp1 X.K C "__getitem__" f) (hfn : PySem.W.fnIn X.K f = true)
    (hb : Binds X.K fd ps []) (hx : Passes CX X E) (ha : PE X a ta) (hbb : PE X b tb)
    (hsl : ∀ o i, subscripted b true o i = runValue (.builtin "lifetime.subscript" ⟨[o, i], []⟩) := by intro _ _; with_unfolding_all rfl) :
    PE X (.Subscript a b pos) (tOp (fun x y H Q => ∃ a dx fs, x = .ref a ∧ H a = some (.ins C dx fs) ∧ sp [.ref a, y] H Q E) ta tb) := by
  refine ⟨fun pins s σ H Q I h => Subscript_ (binT ha hbb I h fun v u s2 x y H2 I2 rx ry q => ?_)⟩
  obtain ⟨a, dx, fs, rfl, ha', q⟩ := q
  cases rx
  obtain ⟨od, J⟩ := inst I2 ha'
  obtain ⟨m, hF⟩ := I2.fr
  exact PySem.W.sub_K hF I2.ok.mod.kin J B.at_ hfn B.fn (runIn (us := [.ref a, u]) (vs := [.ref a, y]) F hr hb hx I2 (.cons rfl (.cons ry .nil)) q) (hsl _ _)
end Own
/-! making an object in the body of a try, where __init__ may err: the wish of the errors looks at the slots -/
namespace TrM
open PySem PySem.Spec PyProof.Rows L2
section
variable {X : Cx} {CX : CXT} {k n : Nat} {f C : Addr} {fd : FuncData} {ps ks : List Str} {sp : Sp} {E : L2.St → XK} {x : Str} {p pos : Pos} {e : PySem.Expr} {es : List PySem.Expr} {kws : List Keyword} {t tk : TA} {g : List Value → List Value → List Value} {gV : List V → List V → List V}
/-- a call of the class: what its __init__ gives or lets out at these slots -/
theorem made {pins : List (Addr × Obj)} {σ : L2.St} {H : Hp} {s : Shared} {Q : VK} {us full : List Value} {kw : List (Str × Value)} {all : Addr → List V} (M : Mk X.K C f) (F : FnOk X.prog X.w X.K X.mg X.base CX k f fd ps sp) (hr : Room (k + 1) X.A) (hx : PassesAt CX X σ (E σ)) (I : Inv X pins σ H s)
    (hb : ∀ z : Shared, X.K.In z.heap → BindsTo z fd ⟨.ref (s.heap.objs.size + 1) :: us, kw⟩ (ps.zip full)) (r : Vals (all (s.heap.objs.size + 1)) full)
    (h : ∀ y dy, H y = none → H dy = none → dy ≠ y → sp (all y) (upd (upd H dy (.own y)) y (.ins C dy [])) (fun v H2 => v = .non ∧ Q (.ref y) H2) (E σ)) :
    wpAny (model X.prog X.w) X.A (PySem.call (.ref C) us kw) (EP X pins σ Q) X.xe s := by
  have J := Inv.made (C := C) I
  have due := h (s.heap.objs.size + 1) s.heap.objs.size (I.hok.fresh (Nat.le_succ _)) (I.hok.fresh (Nat.le_refl _)) (Nat.ne_of_lt (Nat.lt_succ_self _))
  have body := F.run _ X.stack _ _ ⟨.ref (s.heap.objs.size + 1) :: us, kw⟩ full _ _ (E σ) (hr.make C us kw) (J.env0.make C us kw) (hb _ J.kIn) r due
  refine wpAny_call (make_map (f := f) I.kIn M.makes M.init (beq_iff_eq.mp M.fn) (codeAny_mono body ?_))
  intro o z hz
  match o, hz with
  | .error e, hz => exact hx pins _ _ e z J hz
  | .ok (.ret u), hz =>
    obtain ⟨v, H3, J3, rv, rfl, q⟩ := J.after hz
    exact ⟨rv, .ref _, H3, J3, rfl, q⟩
/-- C(e, .., k = v, ..) in a try -/
def tMakeKS (C : Addr) (n m : Nat) (sp : Sp) (gV : List V → List V → List V) (E : L2.St → XK) (t tk : TA) : TE := fun σ H Q => t σ H fun vs H1 => tk σ H1 fun zs H2 => vs.length = n ∧ zs.length = m ∧ ∀ y dy, H2 y = none → H2 dy = none → dy ≠ y →
  sp (gV (.ref y :: vs) zs) (upd (upd H2 dy (.own y)) y (.ins C dy [])) (fun v H3 => v = .non ∧ Q (.ref y) H3) (E σ)
theorem pe_makeKS (M : Mk X.K C f) (F : FnOk X.prog X.w X.K X.mg X.base CX k f fd ps sp) (hr : Room (k + 1) X.A) (hg : Gl X x) (hm : X.mg x = some (.ref C)) (hb : KBn X.K fd ps (n + 1) ks g gV) (hx : ∀ σ, PassesAt CX X σ (E σ)) (ha : PA X (e :: es) t) (hkw : PK X kws tk)
    (w1 : (backToKw pos (keywordEach kws X.env)).all (·.1.isSome) = true := by rfl) (w2 : (backToKw pos (keywordEach kws X.env)).filterMap (·.1) = ks := by rfl) (w3 : (x == ("__debug__" : Str)) = false := by decide)
    (w4 : starEach (e :: es) X.env = (false, eval e X.env) :: starEach es X.env := by rfl) (w5 : ((backTo pos (starEach (e :: es) X.env)).any (·.1) || (backToKw pos (keywordEach kws X.env)).any (·.1.isNone)) = false := by rfl) :
    PE X (.Call (.Name x p) (e :: es) kws pos) (tMakeKS C n ks.length sp gV E t tk) := by
  refine ⟨fun pins s σ H Q I h => wpAny_Call_Name_kw (ld_glob I hg hm (PySem.W.callWith_KW (h₀ := X.base) I.ok.mod.kin M.kp w1 (thn (ha.run pos pins s σ H _ I h) fun us s1 q1 => ?_) w5 w4) w3)⟩
  obtain ⟨vs, H1, I1, r, q1⟩ := q1
  refine thn (hkw.run pos pins s1 σ H1 _ I1 q1) fun ws s2 q2 => ?_
  obtain ⟨zs, H2, I2, rz, l1, l2, q2⟩ := q2
  refine ⟨I2.kIn, ?_⟩
  rw [w2]
  exact made (all := fun y => gV (.ref y :: vs) zs) M F hr (hx σ) I2 (fun z hz => hb.to z _ ws hz (by rw [List.length_cons, List.nil_append, ← r.length, l1]) (rz.length.symm.trans l2)) (hb.rel (.cons rfl r) rz) q2
/-- C(e, ..) in a try -/
def tMakeS (C : Addr) (sp : Sp) (dvs : List V) (E : L2.St → XK) (t : TA) : TE := fun σ H Q => t σ H fun vs H1 => ∀ y dy, H1 y = none → H1 dy = none → dy ≠ y → sp (.ref y :: (vs ++ dvs)) (upd (upd H1 dy (.own y)) y (.ins C dy [])) (fun v H2 => v = .non ∧ Q (.ref y) H2) (E σ)
theorem pe_makeS {dvs : List V} {ds : List Value} (M : Mk X.K C f) (F : FnOk X.prog X.w X.K X.mg X.base CX k f fd ps sp) (hr : Room (k + 1) X.A) (hg : Gl X x) (hm : X.mg x = some (.ref C)) (hb : Binds X.K fd ps ds) (hd : Vals dvs ds) (hx : ∀ σ, PassesAt CX X σ (E σ)) (ha : PA X (e :: es) t)
    (w3 : (x == ("__debug__" : Str)) = false := by decide) (w4 : starEach (e :: es) X.env = (false, eval e X.env) :: starEach es X.env := by rfl) (w5 : (backTo pos (starEach es X.env)).any (·.1) = false := by rfl) :
    PE X (.Call (.Name x p) (e :: es) [] pos) (tMakeS C sp dvs E t) := by
  refine ⟨fun pins s σ H Q I h => wpAny_Call_Name_kw (ld_glob I hg hm (PySem.W.callWith_K (h₀ := X.base) I.ok.mod.kin M.kp (thn (ha.run pos pins s σ H _ I h) fun us s1 q1 => ?_) w4 w5) w3)⟩
  obtain ⟨vs, H1, I1, r, q1⟩ := q1
  refine ⟨I1.kIn, ?_⟩
  have hq := q1 (s1.heap.objs.size + 1) s1.heap.objs.size (I1.hok.fresh (Nat.le_succ _)) (I1.hok.fresh (Nat.le_refl _)) (Nat.ne_of_lt (Nat.lt_succ_self _))
  have l : ((Value.ref (s1.heap.objs.size + 1) :: us) ++ ds).length = ps.length := by
    have := F.len _ _ _ _ hq
    rw [← this, List.cons_append, List.length_cons, List.length_cons, List.length_append, List.length_append, ← r.length, ← hd.length]
  exact made (all := fun y => .ref y :: (vs ++ dvs)) M F hr (hx σ) I1 (fun z hz => hb z (.ref (s1.heap.objs.size + 1) :: us) hz l) (.cons rfl (r.append hd)) q1
end
end TrM
namespace Rd
open PySem PySem.Spec PyProof.Rows L2
theorem mkKS {C : Addr} {n m : Nat} {sp : Sp} {gV : List V → List V → List V} {E : L2.St → XK} {t tk : TA} {σ : L2.St} {H : Hp} {Q : VK} (h : t σ H fun vs H1 => tk σ H1 fun zs H2 => vs.length = n ∧ zs.length = m ∧ ∀ y dy, H2 y = none → H2 dy = none → dy ≠ y →
    sp (gV (.ref y :: vs) zs) (upd (upd H2 dy (.own y)) y (.ins C dy [])) (fun v H3 => v = .non ∧ Q (.ref y) H3) (E σ)) : TrM.tMakeKS C n m sp gV E t tk σ H Q := h
theorem mkS {C : Addr} {sp : Sp} {dvs : List V} {E : L2.St → XK} {t : TA} {σ : L2.St} {H : Hp} {Q : VK} (h : t σ H fun vs H1 => ∀ y dy, H1 y = none → H1 dy = none → dy ≠ y →
    sp (.ref y :: (vs ++ dvs)) (upd (upd H1 dy (.own y)) y (.ins C dy [])) (fun v H2 => v = .non ∧ Q (.ref y) H2) (E σ)) : TrM.tMakeS C sp dvs E t σ H Q := h
end Rd
namespace Rd
open PySem PySem.Spec PyProof.Rows L2
section
variable {σ : L2.St} {H : Hp} {Q : VK}
theorem mkKn {C : Addr} {n m : Nat} {sp : Sp} {gV : List V → List V → List V} {E : XK} {t tk : TA} (h : t σ H fun vs H1 => tk σ H1 fun zs H2 => vs.length = n ∧ zs.length = m ∧ ∀ x dx, H2 x = none → H2 dx = none → dx ≠ x →
    sp (gV (.ref x :: vs) zs) (upd (upd H2 dx (.own x)) x (.ins C dx [])) (fun v H3 => v = .non ∧ Q (.ref x) H3) E) : tMakeK C n m sp gV E t tk σ H Q := h
theorem setD {a : Addr} {kvs : List (Key × V)} {z : Str} {v : V} {q : Hp → Prop} (e : H a = some (.dK kvs)) (l : kvs.length < sizeLine) (h : q (upd H a (.dK (putK kvs (.inr z) v)))) : rSetD (.ref a) (.str z) v H q :=
  ⟨a, _, rfl, DPut.k (k := Sum.inr z) e l, h⟩
end
end Rd
/-! operators of own classes in the body of a try, where their methods may err: the wish of the errors looks at the slots -/
namespace TrO
open PySem PySem.Spec PyProof.Rows L2 Own
section
variable {X : Cx} {CX : CXT} {k : Nat} {f C : Addr} {fd : FuncData} {ps : List Str} {sp : Sp} {E : L2.St → XK} {op : Operator}
theorem runInS {pins : List (Addr × Obj)} {σ : L2.St} {H : Hp} {s : Shared} {Q : VK} {us : List Value} {vs : List V} (F : FnOk X.prog X.w X.K X.mg X.base CX k f fd ps sp) (hr : Room (k + 1) X.A) (hb : Binds X.K fd ps []) (hx : PassesAt CX X σ (E σ))
    (I : Inv X pins σ H s) (r : Vals vs us) (h : sp vs H Q (E σ)) : wpAny (model X.prog X.w) X.A.in1 (PySem.call (.ref f) us) (EP X pins σ Q) X.xe s := by
  have n : us.length = ps.length := r.length.symm.trans (F.len _ _ _ _ h)
  have b := hb s us I.kIn (by rw [List.append_nil]; exact n)
  rw [List.append_nil] at b
  refine wpAny_call (codeAny_mono (F.run X.A.in1 X.stack s H ⟨us, []⟩ us vs Q (E σ) hr.in1 I.env0.in1 b r h) fun o z hz => ?_)
  match o, hz with
  | .error e, hz => exact hx pins H s e z I hz
  | .ok (.ret u), hz => exact I.after hz
/-- o[i] by the own __getitem__, in a try -/
def tItemS (C : Addr) (sp : Sp) (E : L2.St → XK) (ta tb : TE) : TE := fun σ H Q => ta σ H fun x H1 => tb σ H1 fun y H2 => ∃ a dx fs, x = .ref a ∧ H2 a = some (.ins C dx fs) ∧ sp [.ref a, y] H2 Q (E σ)
theorem pe_itemS {a b : PySem.Expr} {ta tb : TE} {pos : Pos} (F : FnOk X.prog X.w X.K X.mg X.base CX k f fd ps sp) (hr : Room (k + 1) X.A) (B : Sp1 X.K C "__getitem__" f) (hfn : PySem.W.fnIn X.K f = true)
    (hb : Binds X.K fd ps []) (hx : ∀ σ, PassesAt CX X σ (E σ)) (ha : PE X a ta) (hbb : PE X b tb)
    (hsl : ∀ o i, subscripted b true o i = runValue (.builtin "lifetime.subscript" ⟨[o, i], []⟩) := by intro _ _; with_unfolding_all rfl) :
    PE X (.Subscript a b pos) (tItemS C sp E ta tb) := by
  refine ⟨fun pins s σ H Q I h => Subscript_ (binT ha hbb I h fun v u s2 x y H2 I2 rx ry q => ?_)⟩
  obtain ⟨a, dx, fs, rfl, hi, q⟩ := q
  cases rx
  obtain ⟨od, J⟩ := inst I2 hi
  obtain ⟨m, hF⟩ := I2.fr
  exact PySem.W.sub_K hF I2.ok.mod.kin J B.at_ hfn B.fn (runInS (us := [.ref a, u]) (vs := [.ref a, y]) F hr hb (hx σ) I2 (.cons rfl (.cons ry .nil)) q) (hsl _ _)
/-- x op= e by an own in-place method, in a try -/
def tAugS (i : Nat) (C : Addr) (sp : Sp) (E : L2.St → XK) (te : TE) : TS := fun D σ H => ∃ x, σ[i]? = some (some x) ∧ te σ H fun y H1 => ∃ a dx fs, x = .ref a ∧ H1 a = some (.ins C dx fs) ∧ sp [.ref a, y] H1 (fun z H2 => D.nx (σ.set i (some z)) H2) (E σ)
theorem ps_augS {i : Nat} {x : Str} {e : PySem.Expr} {te : TE} {q1 q2 : Pos} (hN : X.N.Nodup) (hi : X.N[i]? = some x) (hl0 : X.env.scope.names.lookup x = some .local) (he : PE X e te) (F : FnOk X.prog X.w X.K X.mg X.base CX k f fd ps sp) (hr : Room k X.A)
    (c1 : PySem.W.selfFirst X.K C = true) (c2 : Sp1 X.K C (dunderI op.info.2) f) (hb : Binds X.K fd ps []) (hx : ∀ σ, PassesAt CX X σ (E σ)) :
    PS X (.AugAssign (.Name x q1) op e q2) (tAugS i C sp E te) := by
  refine ⟨fun pins s σ H D I h => wpAny_AugAssign_Name ?_⟩
  obtain ⟨v, ev, h⟩ := h
  obtain ⟨m, nm, ll⟩ := I.loc
  obtain ⟨u, r, look⟩ := ll i x v hi ev (.inl hl0)
  have go : wpAny (model X.prog X.w) X.A (eval e X.env) (fun y s2 => wpAny (model X.prog X.w) X.A (inplaceOp op u y) (fun z s3 => wpAny (model X.prog X.w) X.A (storeName X.env x z) (fun _ => SP X pins D .next) X.xe s3) X.xe s2) X.xe s := by
    refine thn (he.run pins s σ H _ I h) fun y s1 g => ?_
    obtain ⟨yv, H1, I1, ry, a, dx, fs, rfl, ha, g⟩ := g
    cases r
    obtain ⟨od, J⟩ := inst I1 ha
    obtain ⟨m1, hF⟩ := I1.fr
    refine thn (PySem.W.ksp_inplace hF I1.ok.mod.kin J c1 c2.at_ c2.fn (back (run_fnS (us := [.ref a, y]) (vs := [.ref a, yv]) F hr hb (hx σ) I1 (.cons rfl (.cons ry .nil)) g))) fun z s2 g2 => ?_
    obtain ⟨zv, H2, I2, rz, g3⟩ := g2
    exact store_ok I2 hN hi (.inl hl0) rz (fun s3 I3 => ⟨_, H2, I3, g3⟩) (.inr hl0)
  rcases look with ⟨k1, k2⟩ | ⟨k1, c, k3, k4⟩
  · exact wpAny_loadName_local I.ok.kind k1 nm k2 go
  · rcases k1 with k1 | k1
    · have z : X.env.scope.names.lookup x = some .cell := k1
      rw [hl0] at z; cases z
    · have z : X.env.scope.names.lookup x = some .free := k1
      rw [hl0] at z; cases z
end
end TrO
namespace Rd
open PySem PySem.Spec PyProof.Rows L2
section
variable {σ : L2.St} {H : Hp} {Q : VK} {D : Ends} {C : Addr} {sp : Sp} {E : L2.St → XK}
theorem itS {ta tb : TE} (h : ta σ H fun x H1 => tb σ H1 fun y H2 => ∃ a dx fs, x = V.ref a ∧ H2 a = some (.ins C dx fs) ∧ sp [.ref a, y] H2 Q (E σ)) : TrO.tItemS C sp E ta tb σ H Q := h
theorem augS {i : Nat} {te : TE} {x : V} (e : σ[i]? = some (some x)) (h : te σ H fun y H1 => ∃ a dx fs, x = V.ref a ∧ H1 a = some (.ins C dx fs) ∧ sp [.ref a, y] H1 (fun z H2 => D.nx (σ.set i (some z)) H2) (E σ)) : TrO.tAugS i C sp E te D σ H := ⟨x, e, h⟩
end
end Rd
/-! o[i] = v by the own __setitem__, in a try or not -/
namespace SetO
open PySem PySem.Spec PyProof.Rows L2 Own
section
variable {X : Cx} {CX : CXT} {k : Nat} {f C : Addr} {fd : FuncData} {ps : List Str} {sp : Sp} {E : L2.St → XK} {o i : PySem.Expr} {to ti : TE} {pos : Pos}
def gSubS (C : Addr) (sp : Sp) (E : L2.St → XK) (to ti : TE) : TG := fun v σ H Q => to σ H fun x H1 => ti σ H1 fun y H2 => ∃ a dx fs, x = .ref a ∧ H2 a = some (.ins C dx fs) ∧ sp [.ref a, y, v] H2 (fun _ H3 => Q σ H3) (E σ)
theorem at_of {E : XK} {CX : CXT} (hx : Passes CX X E) : ∀ σ, PassesAt CX X σ E := fun σ pins H s e s' I hq => hx pins σ H s e s' I hq
theorem pg_subS (F : FnOk X.prog X.w X.K X.mg X.base CX k f fd ps sp) (hr : Room k X.A) (hq : PySem.W.noSeq X.K C = true) (B : Sp1 X.K C "__setitem__" f) (hb : Binds X.K fd ps []) (hx : ∀ σ, PassesAt CX X σ (E σ)) (ho : PE X o to) (hi : PE X i ti)
    (ha : ∀ v, assign (.Subscript o i pos) X.env v = (do
      let ov ← holding [v] (eval o X.env)
      let iv ← holding [v, ov] (eval i X.env)
      standAt pos
      holding [v, ov, iv] (setItem ov iv v)
      release [v, ov, iv] []) := by intro _; rfl) : PG X (.Subscript o i pos) (gSubS C sp E to ti) := by
  refine ⟨fun pins s σ H v u Q I r h => ?_⟩
  rw [ha]
  refine wpAny_bind (wpAny_holding (thn (ho.run pins s σ H _ I h) fun ov s1 ⟨x, H1, I1, r1, q1⟩ => ?_))
  refine wpAny_bind (wpAny_holding (thn (hi.run pins s1 σ H1 _ I1 q1) fun iv s2 ⟨y, H2, I2, r2, q2⟩ => ?_))
  obtain ⟨a, dx, fs, rfl, hi2, g⟩ := q2
  cases r1
  refine wpAny_bind (wpAny_standAt (wpAny_bind (wpAny_holding ?_)))
  obtain ⟨od, J⟩ := inst I2 hi2
  obtain ⟨m1, hF⟩ := I2.fr
  exact PySem.W.ksp_setItem hF I2.ok.mod.kin J hq B.at_ B.fn (thn (run_fnS (us := [.ref a, iv, u]) (vs := [.ref a, y, v]) F hr hb (hx σ) I2 (.cons rfl (.cons r2 (.cons r .nil))) g) fun _ s3 ⟨z, H3, I3, _, q3⟩ => wpAny_release ⟨σ, H3, I3, q3⟩)
end
end SetO
namespace Rd
open PySem PySem.Spec PyProof.Rows L2
theorem subS {C : Addr} {sp : Sp} {E : L2.St → XK} {to ti : TE} {v : V} {σ : L2.St} {H : Hp} {Q : L2.St → Hp → Prop} (h : to σ H fun x H1 => ti σ H1 fun y H2 => ∃ a dx fs, x = V.ref a ∧ H2 a = some (.ins C dx fs) ∧ sp [.ref a, y, v] H2 (fun _ H3 => Q σ H3) (E σ)) : SetO.gSubS C sp E to ti v σ H Q := h
end Rd
/-! dicts with int keys: d[k] = v, d[k], d.get(k, x); lists of ints and None, compared -/
namespace Rd
open PySem PySem.Spec PyProof.Rows L2
section
variable {K : PySem.W.Frag} {σ : L2.St} {H : Hp} {Q : VK}
theorem setDI {a : Addr} {kvs : List (Key × V)} {z : Int} {v : V} {q : Hp → Prop} (e : H a = some (.dK kvs)) (l : kvs.length < sizeLine) (h : q (upd H a (.dK (putK kvs (.inl z) v)))) : rSetD (.ref a) (.int z) v H q :=
  ⟨a, _, rfl, DPut.k (k := Sum.inl z) e l, h⟩
theorem dgetI {a : Addr} {kvs : List (Key × V)} {z : Int} {v : V} {R : V → Prop} (e : H a = some (.dK kvs)) (l : valV kvs (.inl z) = some v) (h : R v) : ∃ a' v, V.ref a = .ref a' ∧ DGet H a' (.int z) (some v) ∧ R v :=
  ⟨a, v, rfl, by rw [← l]; exact DGet.k (k := Sum.inl z) e, h⟩
theorem dget0 {td ty tx : TE} (h : td σ H fun x H1 => ∃ a, x = .ref a ∧ IsD H1 a ∧ ty σ H1 fun y H2 => tx σ H2 fun z H3 => ∃ o, DGet H3 a y o ∧ Q (o.getD z) H3) : tDGet2 td ty tx σ H Q := h
theorem isDK {a : Addr} {kvs : List (Key × V)} (e : H a = some (.dK kvs)) : IsD H a := .inl ⟨kvs, .inl e⟩
theorem dgetO {a : Addr} {kvs : List (Key × V)} {z : Int} {d : V} (e : H a = some (.dK kvs)) (h : Q ((valV kvs (.inl z)).getD d) H) : ∃ o, DGet H a (.int z) o ∧ Q (o.getD d) H := ⟨_, DGet.k (k := Sum.inl z) e, h⟩
theorem dgetK {a : Addr} {kvs : List (Key × V)} {z : Int} (e : H a = some (.dK kvs)) : DGet H a (.int z) (valV kvs (.inl z)) := DGet.k (k := Sum.inl z) e
/-- an int or None -/
def ov : Option Int → V
  | some i => .int i
  | none => .non
def od : Option Int → PySem.PyData
  | some i => .int i
  | none => .none
theorem ov_inj {a b : Option Int} (h : ov a = ov b) : a = b := by
  cases a <;> cases b <;> simp_all [ov]
theorem dp_opts : ∀ (H : Hp) (os : List (Option Int)), DpAll K H (os.map ov) (os.map od)
  | _, [] => .nil
  | H, none :: r => .cons .non (dp_opts H r)
  | H, some _ :: r => .cons (.int _) (dp_opts H r)
theorem dp_listO {H : Hp} {a : Addr} {os : List (Option Int)} (h : SqL K H a (os.map ov)) : Dp K H (.ref a) (.list (os.map od)) := .lst h (dp_opts H os)
theorem can_opts : ∀ os : List (Option Int), PyData.canLayAll0 (os.map od) = true
  | [] => by simp [PyData.canLayAll0]
  | none :: r => by simp only [List.map_cons, od, PyData.canLayAll0, PyData.canLay0, can_opts r, Bool.and_self]
  | some _ :: r => by simp only [List.map_cons, od, PyData.canLayAll0, PyData.canLay0, can_opts r, Bool.and_self]
theorem dep_opts : ∀ os : List (Option Int), PyData.depthAll (os.map od) = 0
  | [] => by simp [PyData.depthAll]
  | none :: r => by simp only [List.map_cons, od, PyData.depthAll, PyData.depth, dep_opts r, Nat.max_self]
  | some _ :: r => by simp only [List.map_cons, od, PyData.depthAll, PyData.depth, dep_opts r, Nat.max_self]
theorem shaped_listO (os : List (Option Int)) : SeqAt.shaped (.list (os.map od)) = true := by
  simp only [SeqAt.shaped, PyData.canLay0, can_opts, PyData.depth, dep_opts]
  decide
theorem eqvAll_opts : ∀ as bs : List (Option Int), PyData.eqvAll (as.map od) (bs.map od) = decide (as = bs)
  | [], [] => by simp [PyData.eqvAll]
  | [], _ :: _ => by simp [PyData.eqvAll]
  | _ :: _, [] => by simp [PyData.eqvAll]
  | x :: r, y :: q => by
    simp only [List.map_cons, PyData.eqvAll, eqvAll_opts r q]
    cases x with
    | none => cases y <;> simp [od, PyData.eqv]
    | some i =>
      cases y with
      | none => simp [od, PyData.eqv]
      | some j =>
        simp only [od, PyData.eqv]
        by_cases h : i = j
        · subst h; simp
        · simp [h]
theorem eqv_listO (as bs : List (Option Int)) : PyData.eqv (.list (as.map od)) (.list (bs.map od)) = decide (as = bs) := by
  simp only [PyData.eqv, eqvAll_opts]
theorem neO {as bs : List (Option Int)} (h : as = bs) : (!PyData.eqv (.list (as.map od)) (.list (bs.map od))) = false := by rw [eqv_listO, decide_eq_true h]; rfl
end
end Rd
/-! ## a caught error handed to a def: it stays pinned while the def runs -/
namespace Er
open PySem PySem.Spec PyProof.Rows L2 L2H
/-- a def that is called while an exception is handled, p that exception's object (its promise may speak of it); it lets nothing out -/
structure FnE (P : Program) (w : World) (K : PySem.W.Frag) (mg : Str → Option Value) (base : Heap) (k : Nat) (f : Addr) (fd : FuncData) (ps : List Str) (sp : Addr × Obj → Sp) : Prop where
  len : ∀ p vs H Q E, sp p vs H Q E → vs.length = ps.length
  run : ∀ (A : Around) (outer : List Env) (s : Shared) (H : Hp) (args : Args) (us : List Value) (vs : List V) (Q : VK) (p : Addr × Obj), RoomH k A → PinOk outer H s p → Env0 P w K mg base A outer s H → BindsTo s fd args (ps.zip us) → Vals vs us → sp p vs H Q E0 →
    codeAny (model P w) A (.call (.ref f) args) (CR CX0 outer P w H s Q E0) s
theorem okE {P : Program} {w : World} {K : PySem.W.Frag} {mg : Str → Option Value} {base : Heap} {x qual : Str} {st : Stmt} {f : Addr} {fd : FuncData} {N ps : List Str} {k : Nat} {sp : Addr × Obj → Sp} (F : Fun K x qual st f fd) (S : FnScope N ps (defScope st))
    (len : ∀ p vs H Q E, sp p vs H Q E → vs.length = ps.length)
    (body : ∀ (cdv : Value) (A : Around) (outer : List Env) (s : Shared) (H : Hp) (vs : List V) (Q : VK) (p : Addr × Obj), RoomH k (A.deeper (envOfC qual (defScope st) s.heap.objs.size f cdv)) → sp p vs H Q E0 →
      ∃ t, PSs (cxH CX0 P w K mg base N qual (defScope st) f cdv A outer s H E0 p) (defBody st) t ∧ t { nx := fun _ H' => Q .non H', rt := Q } (L2.start N vs) H) : FnE P w K mg base (k + 1) f fd ps sp := by
  obtain ⟨oc, od, kV, doc, pm, an, cdv, ct, osl, rfl, lk, hcd⟩ := F.ex
  constructor
  · exact len
  intro A outer s H args us vs Q p hr pin e0 hb r hsp
  have old : ∀ b o, base.get? b = some o → s.heap.get? b = some o := fun b o e => (e0.bs b o e).1
  have KX : K.In s.heap := e0.mod.kin.keeps old
  have lim : s.heap.NoLimit := e0.mod.nolimit.keeps old
  have kinds : ∀ y ∈ ps.zip us, (defScope st).names.lookup y.1 = some .local ∨ ((defScope st).names.lookup y.1 = some .cell ∧ ((cellsFrom (s.heap.objs.size + 1) (defScope st).names []).lookup y.1).isSome = true) := by
    rintro ⟨n, v⟩ hy
    rcases S.par n (List.of_mem_zip hy).1 with q | q
    · exact .inl q
    · exact .inr ⟨q, PySem.W.cellsFrom_some _ _ _ (.inl q)⟩
  apply codeAny_call_function hr.depth (KX _ _ lk) rfl S.co S.gen rfl (PySem.W.codeRec_of KX hcd) (hb _ _ _ _ _)
  apply wpAny_newFunctionEnv_cells S.kind kinds
  rintro env rfl s1 z
  obtain ⟨t, ht, hq⟩ := body cdv A outer s H vs Q p (hr.deeper _) hsp
  have I := inv_startH (CX := CX0) (E := E0) (P := P) (w := w) (mg := mg) (f := f) (cd := cdv) (qual := qual) S pin e0 (len _ _ _ _ _ hsp) r z
  refine ⟨lim.keeps z.toInCall.keep, codeAny_func (wpAny_mono (ht.run [] s1 (L2.start N vs) H _ I hq) ?_ fun e s' hs => hs)⟩
  rintro (_ | _ | _ | u) s' hs
  · obtain ⟨σ', H', J, q⟩ := hs
    exact ⟨.non, H', J.os, J.bare, J.base, J.hok, rfl, q⟩
  · obtain ⟨_, _, _, q⟩ := hs
    exact q.elim
  · obtain ⟨_, _, _, q⟩ := hs
    exact q.elim
  · obtain ⟨v, σ', H', J, rv, q⟩ := hs
    exact ⟨v, H', J.os, J.bare, J.base, J.hok, rv, q⟩
theorem roomS {k : Nat} {A : Around} {h : Option Value} (r : Room k A) : RoomH k (A.mark h) := ⟨r.dp, r.un⟩
/-- f(e), e the exception that the suite holds -/
def tCallE (sp : Addr × Obj → Sp) (a : Addr) (cls : Value) (d : Option Addr) (i : Nat) : TE := fun σ H Q => σ[i]? = some (some (.ref a)) ∧ ∀ oe, Zc cls d oe → (∃ vs, oe.data = .fields vs) → sp (a, oe) [.ref a] H Q E0
theorem pe_callE {P : Program} {w : World} {K : PySem.W.Frag} {mg : Str → Option Value} {base : Heap} {X : Cx} {k i : Nat} {f a : Addr} {fd : FuncData} {ps : List Str} {sp : Addr × Obj → Sp} {x n : Str} {p1 p2 pos : Pos} {oe : Obj} {cls : Value} {d : Option Addr} (e1 : X.prog = P) (e2 : X.w = w) (e3 : X.K = K) (e4 : X.mg = mg) (e5 : X.base = base)
    (F : FnE P w K mg base k f fd ps sp) (hz : Zc cls d oe) (hf : ∃ vs, oe.data = .fields vs) (hp : (a, oe) ∈ X.pn) (hr : RoomH k X.A) (hg : Gl X x) (hm : mg x = some (.ref f)) (hk : PySem.W.keepIn K (.ref f) = true) (hb : Binds K fd ps [])
    (hN : X.N[i]? = some n) (hv : Vis X.env.scope n) (h1 : (n == ("__debug__" : Str)) = false := by decide) (h2 : (n == ("__classdict__" : Str)) = false := by decide) (hdb : (x == ("__debug__" : Str)) = false := by decide)
    (he : starEach [Expr.Name n p2] X.env = (false, eval (Expr.Name n p2) X.env) :: starEach [] X.env := by rfl) (hpl : (backTo pos (starEach [] X.env)).any (·.1) = false := by rfl) : PE X (.Call (.Name x p1) [.Name n p2] [] pos) (tCallE sp a cls d i) := by
  subst e1 e2 e3 e4 e5
  constructor
  rintro pins s σ H Q I ⟨at_, h⟩
  have A1 : PA X [Expr.Name n p2] (tCons (tVar i) tNil) := pa_cons (pe_var hN hv h1 h2) pa_nil
  apply wpAny_Call_Name_kw
  refine ld_glob I hg hm ?_ hdb
  refine PySem.W.callWith_K (h₀ := X.base) I.ok.mod.kin hk (thn (A1.run pos pins s σ H (fun vs H1 => vs = [.ref a] ∧ H1 = H) I ⟨_, at_, rfl, rfl⟩) ?_) he hpl
  rintro us s1 ⟨vs, H1, I1, r, rfl, rfl⟩
  refine ⟨I1.kIn, ?_⟩
  have sp1 := h oe hz hf
  have hl : us.length = ps.length := by rw [← r.length]; exact F.len _ _ _ _ _ sp1
  have b := hb s1 us I1.kIn (by rw [List.append_nil]; exact hl)
  rw [List.append_nil] at b
  obtain ⟨g1, g2, g3, g4, g5⟩ := I1.pin (a, oe) (List.mem_append_left _ hp)
  have pin : PinOk X.stack H1 s1 (a, oe) := ⟨g1, g2, fun z => (List.mem_cons.mp (I1.stkSub a z)).elim g3 g4, g5⟩
  refine wpAny_call (codeAny_mono (F.run X.A X.stack s1 H1 ⟨us, []⟩ us _ Q (a, oe) hr pin I1.env0 b r sp1) ?_)
  rintro (e | (_ | _ | _ | u)) s2 hq
  · exact hq.elim
  · exact hq.elim
  · exact hq.elim
  · exact hq.elim
  · exact I1.after hq
/-- isinstance(e, c), (c1, c2, ..) of the error that is pinned -/
def rIsP (K : PySem.W.Frag) (p : Addr × Obj) : List V → Hp → VK → Prop := fun xs H Q => ∃ (D : Addr) (c : V) (u : Value) (b : Bool), xs = [.ref p.1, c] ∧ Zc (.ref D) none p.2 ∧ (∃ vs, p.2.data = .fields vs) ∧ ExcC K D ∧ ClsV c u ∧ PySem.W.kitOne K (.ref D) u = some b ∧ Q (.bl b) H
def rIsPT (K : PySem.W.Frag) (p : Addr × Obj) : List V → Hp → VK → Prop := fun xs H Q => ∃ (D tp : Addr) (cs : List V) (us : List Value) (b : Bool), xs = [.ref p.1, .ref tp] ∧ H tp = some (.tup cs) ∧ Paired ClsV cs us ∧ Zc (.ref D) none p.2 ∧ (∃ vs, p.2.data = .fields vs) ∧ ExcC K D ∧ PySem.W.kitAny K (.ref D) us = some b ∧ Q (.bl b) H
theorem inst {X : Cx} {pins : List (Addr × Obj)} {s : Shared} {σ : L2.St} {H : Hp} {p : Addr × Obj} {D : Addr} (I : Inv X pins σ H s) (hp : p ∈ X.pn) (hz : Zc (.ref D) none p.2) (hf : ∃ vs, p.2.data = .fields vs) : PySem.W.InstAt s.heap p.1 p.2 D none := by
  obtain ⟨a, oc, od, dt, sl⟩ := p
  obtain ⟨g, _⟩ := I.pin _ (List.mem_append_left _ hp)
  obtain ⟨vs, hv⟩ := hf
  obtain ⟨h1, h2⟩ := hz
  dsimp only at h1 h2 hv
  subst h1 h2 hv
  exact ⟨g, rfl, rfl, trivial⟩
theorem call_isP {X : Cx} {K : PySem.W.Frag} {p : Addr × Obj} (eK : X.K = K) (hp : p ∈ X.pn) : CallR X (.builtin "isinstance") (rIsP K p) := by
  subst eK
  rintro pins s σ H xs us Q I r ⟨D, c, u, b, rfl, hz, hf, C, kc, e, q⟩
  obtain ⟨u1, u2, rfl, r1, r2⟩ := vals2 r
  cases (show u1 = Value.ref p.1 from r1)
  have e2 := kc.eq r2
  subst e2
  exact PySem.W.kia_one (PySem.W.handS_kitx_exc C.hg C.hk C.hs C.hd C.ha C.hn C.ht C.hm) I.kIn (inst I hp hz hf) e (fun z => nomatch z) fun tk => ⟨.bl b, H, I.tok tk, rfl, q⟩
theorem call_isPT {X : Cx} {K : PySem.W.Frag} {p : Addr × Obj} (eK : X.K = K) (hp : p ∈ X.pn) : CallR X (.builtin "isinstance") (rIsPT K p) := by
  subst eK
  rintro pins s σ H xs us Q I r ⟨D, tp, cs, ws, b, rfl, hT, kc, hz, hf, C, e, q⟩
  obtain ⟨u1, u2, rfl, r1, r2⟩ := vals2 r
  cases (show u1 = Value.ref p.1 from r1)
  cases (show u2 = Value.ref tp from r2)
  obtain ⟨_, its, rv, o, h1, h2, n, h3⟩ := (show ObjOk X.prog X.w H s.heap tp (.tup cs) from I.hok tp _ hT)
  have e3 := ClsV.all kc rv
  subst e3
  obtain ⟨oc, od, dt, sl⟩ := o
  simp only at h2 h3
  subst h2 h3
  exact PySem.W.kia_tup (PySem.W.handS_kitx_exc C.hg C.hk C.hs C.hd C.ha C.hn C.ht C.hm) I.kIn (inst I hp hz hf) h1 e (fun z => nomatch z) fun tk => ⟨.bl b, H, I.tok tk, rfl, q⟩
theorem any2 {K : PySem.W.Frag} {t u1 u2 : Value} (h1 : PySem.W.kitOne K t u1 = some false) (h2 : PySem.W.kitOne K t u2 = some false) : PySem.W.kitAny K t [u1, u2] = some false := by
  simp only [PySem.W.kitAny, h1, h2]
end Er
namespace Rd
open PySem PySem.Spec PyProof.Rows L2
theorem callE {sp : Addr × Obj → Sp} {a : Addr} {cls : Value} {d : Option Addr} {i : Nat} {σ : L2.St} {H : Hp} {Q : VK} (h1 : σ[i]? = some (some (.ref a))) (h : ∀ oe, Zc cls d oe → (∃ vs, oe.data = .fields vs) → sp (a, oe) [.ref a] H Q E0) : Er.tCallE sp a cls d i σ H Q := ⟨h1, h⟩
end Rd

/-! ## heaps: what a step leaves -/
def Frm (a : Nat) (H H' : L2.Hp) : Prop := ∀ b o, H b = some o → b ≠ a → H' b = some o
section
open PySem L2
variable {H H' H1 H2 : Hp} {a b p : Nat} {o u : HO}
theorem Frm.get (f : Frm a H H') (h : H b = some o) (n : b ≠ a) : H' b = some o := f b o h n
theorem Sget (f : L2.Same H H') (h : H b = some o) : H' b = some o := f b o h
theorem Frm.free (f : Frm a H H') (n : b ≠ a) (h : H' b = none) : H b = none := by
  cases q : H b with
  | none => rfl
  | some o => rw [f b o q n] at h; cases h
theorem Sfree (f : L2.Same H H') (h : H' b = none) : H b = none := L2.Same.free f h
theorem updFree (h : upd H a o b = none) : H b = none := by
  unfold upd at h
  split at h
  · cases h
  · exact h
theorem updGet' (h : H b = some o) (n : b ≠ a) : upd H a u b = some o := by rw [upd_ne n]; exact h
theorem ne_none (h : H b = none) (h' : H a = some o) : a ≠ b := ne_of_none h' h
theorem ne_none' (h : H a = none) (h' : H b = some o) : a ≠ b := (ne_of_none h' h).symm
theorem updFresh (n : H a = none) (h : H b = some o) : upd H a u b = some o := updGet' h (ne_of_none h n)
theorem updMade {x dx : Nat} {v : HO} (n : H x = none) (m : H dx = none) (h : H b = some o) : upd (upd H dx u) x v b = some o := updGet' (updGet' h (ne_of_none h m)) (ne_of_none h n)
theorem Frm.get' (f : Frm a H H') (n : b ≠ a) (h : H b = some o) : H' b = some o := f b o h n
theorem updGet (n : b ≠ a) (h : H b = some o) : upd H a u b = some o := by rw [upd_ne n]; exact h
end

local macro_rules | `(tactic| walk_at "hp") => `(tactic| first
  | with_reducible assumption
  | with_reducible exact L2.upd_same
  | ((with_reducible apply updFresh); (· with_reducible assumption); (· walk_at "hp"))
  | ((with_reducible apply updMade); (· with_reducible assumption); (· with_reducible assumption); (· walk_at "hp"))
  | ((with_reducible apply updGet); (· walk_at "ne"); (· walk_at "hp"))
  | ((with_reducible apply Sget); (· with_reducible assumption); (· walk_at "hp"))
  | ((with_reducible apply Frm.get'); (· with_reducible assumption); (· walk_at "ne"); (· walk_at "hp"))
  | fail "hp")
local macro_rules | `(tactic| walk_at "ne") => `(tactic| first
  | with_reducible assumption
  | exact Ne.symm (by with_reducible assumption)
  | ((with_reducible apply ne_none); (· with_reducible assumption); (· walk_at "hp"))
  | ((with_reducible apply ne_none'); (· with_reducible assumption); (· walk_at "hp"))
  | ((with_reducible apply L2.ne_of); (· walk_at "hp"); (· walk_at "hp"); (· (intro z; cases z)))
  | fail "ne")
local macro_rules | `(tactic| walk_at "vr") => `(tactic| with_unfolding_all rfl)
local macro_rules | `(tactic| walk_at "hpl") => `(tactic| first
  | with_reducible assumption
  | ((with_reducible apply L2.SqL.of); walk_at "hp"))
local macro_rules | `(tactic| walk_at "hpt") => `(tactic| first
  | with_reducible assumption
  | ((with_reducible apply L2.SqT.of); walk_at "hp"))
local macro_rules | `(tactic| walk_at "hpq") => `(tactic| first
  | with_reducible assumption
  | (apply Or.inl; walk_at "hpl")
  | (apply Or.inr; walk_at "hpt"))
local macro_rules | `(tactic| walk_at "sc") => `(tactic| first
  | with_reducible assumption
  | omega
  | decide
  | ((repeat' split) <;> omega))
local macro_rules | `(tactic| walk_at "scp") => `(tactic| (unfold L2.CPow; omega))
local macro_rules | `(tactic| walk_at "ll") => `(tactic| with_unfolding_all exact Nat.le_of_ble_eq_true rfl)
theorem wm {i j : Int} (hi : -(2 ^ 200) < i ∧ i < 2 ^ 200) (hj : -(2 ^ 200) < j ∧ j < 2 ^ 200) : L2.CMulW i j :=
  L2.wide_mul (a := 200) (b := 200) (by omega) (by omega) (by decide) (by decide) (by decide)
theorem wd {i j : Int} (h : 0 < j) (hj : j < 2 ^ 200) : L2.CDivW i j :=
  L2.wide_div (b := 200) h (by omega) (by decide) (by decide)
local macro_rules | `(tactic| walk_at "scm") => `(tactic| exact wm ⟨by walk_at "sc", by walk_at "sc"⟩ ⟨by walk_at "sc", by walk_at "sc"⟩)
local macro_rules | `(tactic| walk_at "scd") => `(tactic| exact wd (by walk_at "sc") (by walk_at "sc"))
local macro_rules | `(tactic| walk_at "clsv") => `(tactic| first | exact L2.ClsV.ty _ | exact L2.ClsV.own _)
local macro_rules | `(tactic| walk_at "kit") => `(tactic| first | with_reducible exact Rd.kit_int_int | with_reducible exact Rd.kit_int_bool | with_reducible exact Rd.kit_bool_bool | with_reducible exact Rd.kit_str_str | with_reducible exact Rd.kit_bool_int | with_reducible exact Rd.kit_str_int | with_reducible exact Rd.kit_none_int | with_reducible exact Rd.kit_tuple_int | with_reducible exact Rd.kit_list_int | with_reducible exact Rd.kit_dict_int | with_reducible exact Rd.kit_str_bool | with_reducible exact Rd.kit_int_str | with_reducible assumption)
local macro_rules | `(tactic| walk_at "nf") => `(tactic| with_reducible assumption)
local macro_rules | `(tactic| walk_at "tyx") => `(tactic| first | exact L2.TyX.base (L2.TyOf.int _) | exact L2.TyX.base (L2.TyOf.bl _) | exact L2.TyX.base L2.TyOf.non | exact L2.TyX.base (L2.TyOf.str _) | ((with_reducible apply Rd.ty_tup); walk_at "hp") | ((with_reducible apply Rd.ty_lst); walk_at "hp"))
local macro_rules | `(tactic| walk_at "frm") => `(tactic| first | (intro b o hb; walk_at "hp") | (intro b o hb hn; walk_at "hp"))
local macro_rules | `(tactic| walk_at "nn") => `(tactic| first
  | with_reducible assumption
  | exact updFree (by with_reducible assumption)
  | exact updFree (updFree (by with_reducible assumption))
  | exact updFree (updFree (updFree (by with_reducible assumption)))
  | exact updFree (updFree (updFree (updFree (by with_reducible assumption))))
  | exact updFree (updFree (updFree (updFree (updFree (by with_reducible assumption)))))
  | exact updFree (updFree (updFree (updFree (updFree (updFree (by with_reducible assumption))))))
  | exact updFree (updFree (updFree (updFree (updFree (updFree (updFree (by with_reducible assumption)))))))
  | exact updFree (updFree (updFree (updFree (updFree (updFree (updFree (updFree (by with_reducible assumption))))))))
  | exact updFree (updFree (updFree (updFree (updFree (updFree (updFree (updFree (updFree (by with_reducible assumption)))))))))
  | exact updFree (updFree (updFree (updFree (updFree (updFree (updFree (updFree (updFree (updFree (by with_reducible assumption))))))))))
  | exact updFree (updFree (updFree (updFree (updFree (updFree (updFree (updFree (updFree (updFree (updFree (by with_reducible assumption)))))))))))
  | exact updFree (updFree (updFree (updFree (updFree (updFree (updFree (updFree (updFree (updFree (updFree (updFree (by with_reducible assumption))))))))))))
  | exact updFree (updFree (updFree (updFree (updFree (updFree (updFree (updFree (updFree (updFree (updFree (updFree (updFree (by with_reducible assumption)))))))))))))
  | exact updFree (updFree (updFree (updFree (updFree (updFree (updFree (updFree (updFree (updFree (updFree (updFree (updFree (updFree (by with_reducible assumption))))))))))))))
  | exact updFree (updFree (updFree (updFree (updFree (updFree (updFree (updFree (updFree (updFree (updFree (updFree (updFree (updFree (updFree (by with_reducible assumption)))))))))))))))
  | exact updFree (updFree (updFree (updFree (updFree (updFree (updFree (updFree (updFree (updFree (updFree (updFree (updFree (updFree (updFree (updFree (by with_reducible assumption))))))))))))))))
  | exact updFree (updFree (updFree (updFree (updFree (updFree (updFree (updFree (updFree (updFree (updFree (updFree (updFree (updFree (updFree (updFree (updFree (by with_reducible assumption)))))))))))))))))
  | exact updFree (updFree (updFree (updFree (updFree (updFree (updFree (updFree (updFree (updFree (updFree (updFree (updFree (updFree (updFree (updFree (updFree (updFree (by with_reducible assumption))))))))))))))))))
  | ((with_reducible apply Sfree); (· with_reducible assumption); (· walk_at "nn")))
local macro_rules | `(tactic| walk_at "em") => `(tactic| first | rfl | (simp only [Int.emod_add_emod, Int.emod_sub_emod, Int.sub_emod_emod, Int.emod_emod]; first | done | rfl | (congr 1; omega)))
local macro_rules | `(tactic| walk_at "dp") => `(tactic| first | ((with_reducible apply Rd.dp_nil); walk_at "hpl") | ((with_reducible apply Rd.dp_listI); walk_at "hpl") | ((with_reducible apply Rd.dp_pair); walk_at "hpt") | ((with_reducible apply L2.Dp.lst); (· walk_at "hpl"); (· walk_at "dpa")) | ((with_reducible apply L2.Dp.tup); (· walk_at "hpt"); (· walk_at "dpa")))
local macro_rules | `(tactic| walk_at "dpt") => `(tactic| first | ((with_reducible apply Rd.dp_pair); (· walk_at "hpt")) | ((with_reducible apply L2.Dp.tup); (· walk_at "hpt"); (· walk_at "dpa")) | fail "dpt")
local macro_rules | `(tactic| walk_at "dpa") => `(tactic| first | with_reducible exact L2.DpAll.nil | ((with_reducible apply L2.DpAll.cons); (· walk_at "dp1"); (· walk_at "dpa")))
local macro_rules | `(tactic| walk_at "dp1") => `(tactic| first | with_reducible exact L2.Dp.int _ | with_reducible exact L2.Dp.bl _ | with_reducible exact L2.Dp.str _ | with_reducible exact L2.Dp.non | walk_at "dp")
local macro_rules | `(tactic| walk_at "shp") => `(tactic| first | with_reducible exact Rd.shaped_pair _ _ | with_reducible exact Rd.shaped_listI _ | with_reducible exact Rd.shaped_nil | (simp only [PySem.SeqAt.shaped, PySem.PyData.canLay0, PySem.PyData.canLayAll0, PySem.PyData.depth, PySem.PyData.depthAll]; rfl))
local macro_rules | `(tactic| walk_at "ty0") => `(tactic| exact Own.ty_int)
local macro_rules | `(tactic| walk_at "sfl") => `(tactic| first | with_unfolding_all exact Nat.le_of_ble_eq_true rfl | ((refine Rd.lput ?_); (repeat refine Rd.lputs ?_); with_unfolding_all exact Nat.le_of_ble_eq_true rfl))
local macro_rules | `(tactic| walk_at "ixn") => `(tactic| first | with_unfolding_all rfl | decide)
local macro_rules | `(tactic| walk_at "bT") => `(tactic| first | (simp only [PySem.PyData.eqv, PySem.PyData.eqvAll, beq_self_eq_true, Bool.and_self]; done) | (exact decide_eq_true rfl) | (simp only [L2.V.int.injEq, L2.V.bl.injEq, decide_eq_true_eq]; omega) | with_unfolding_all rfl | with_reducible assumption | exact decide_eq_true (by walk_at "sc"))
local macro_rules | `(tactic| walk_at "bF") => `(tactic| first | (simp only [← Int.sub_emod, decide_true, Bool.not_true]; done) | (simp only [L2.V.int.injEq, Int.emod_eq_emod_iff_emod_sub_eq_zero, eq_self, decide_true, Bool.true_and, Bool.not_true]; done) | (simp only [Rd.eqv_pairV, Rd.eqv_listI, Rd.eqv_nil, Bool.and_self, Bool.not_true, decide_true]; done) | with_unfolding_all rfl | with_reducible assumption | exact decide_eq_false (by walk_at "sc") | (simp only [L2.V.int.injEq, L2.V.bl.injEq, decide_eq_false_iff_not, Bool.not_eq_false', Bool.not_eq_eq_eq_not, Bool.not_false, decide_eq_true_eq]; omega) | (simp only [L2.V.int.injEq, Bool.and_eq_false_iff, decide_eq_false_iff_not]; first | omega | exact Or.inl (by omega)))

/-! ## the law's source of numbers: two ints in a list -/
section
open PySem L2
/-- what stands in the list -/
def SrcO (o : HO) : Prop := ∃ x y : Int, o = .lst [.int x, .int y] ∧ 0 ≤ x ∧ 0 ≤ y ∧ y < 2147483647
/-- a draw -/
abbrev spDraw : Sp := fun vs H Q _ => ∃ (a : Addr) (o : HO) (m : Int), vs = [.ref a, .int m] ∧ H a = some o ∧ SrcO o ∧ 0 < m ∧ m < 2 ^ 190 ∧
  ∀ (d : Int) (o' : HO), 0 ≤ d → d < m → SrcO o' → Q (.int d) (upd H a o')
/-- a fresh source -/
abbrev spSource (K : PySem.W.Frag) : Sp := fun vs H Q _ => ∃ (a : Addr) (ns : List Int) (t : Int), vs = [.ref a, .int t] ∧ SqL K H a (ns.map V.int) ∧ 0 ≤ t ∧ t < 1000000 ∧
  ∀ (p : Addr) (o : HO), H p = none → SrcO o → Q (.ref p) (upd H p o)
theorem sq_nonneg {y : Int} (h : 0 ≤ y) : 0 ≤ y * y := Int.mul_nonneg h h
theorem atI_map {ns : List Int} {t : Int} (h0 : 0 ≤ t) (h : t < (ns.length : Int)) : ∃ z : Int, atI (ns.map V.int) t = some (.int z) := by
  obtain ⟨j, rfl⟩ : ∃ j : Nat, t = (j : Int) := ⟨t.toNat, by omega⟩
  have hj : j < ns.length := by omega
  exact ⟨ns[j], atI_nat (by rw [List.getElem?_map, List.getElem?_eq_getElem hj]; rfl)⟩
/-- an item of a list of ints at a drawn place: what all its items keep -/
theorem pickI {ns : List Int} {P : Int → Prop} (hP : ∀ n ∈ ns, P n) {d : Int} (h0 : 0 ≤ d) (h : d < (ns.length : Int)) : ∃ n : Int, atI (ns.map V.int) d = some (.int n) ∧ P n := by
  obtain ⟨j, rfl⟩ : ∃ j : Nat, d = (j : Int) := ⟨d.toNat, by omega⟩
  have hj : j < ns.length := by omega
  exact ⟨ns[j], atI_nat (by rw [List.getElem?_map, List.getElem?_eq_getElem hj]; rfl), hP _ (List.getElem_mem hj)⟩
end

/-! ## the head: what the top leaves, looked at in one run -/
namespace Hd
open PySem PySem.Spec PyProof.Rows L2
/-- a def: its place (read off what is looked at), its two names, its text, its defaults -/
structure Df where
  ad : PySem.W.Frag → Addr
  nm : Str
  ql : Str
  st : Stmt
  dv : List V
  kw : List (Str × V)
def Df.see (K : PySem.W.Frag) (d : Df) : He.FnW := match K.lookup (d.ad K) with
  | some ⟨_, _, .func z, _⟩ => some (z.name, z.qualname, z.params, z.body, z.scope, z.globals, z.closure, z.builtins)
  | _ => none
def Df.due (d : Df) : He.FnW := some (d.nm, d.ql, defArgs d.st, .stmts (defBody d.st), defScope d.st, mainGlobals, [], builtinsNs)
def Df.good (K : PySem.W.Frag) (d : Df) : Bool := (match K.lookup (d.ad K) with
  | some ⟨_, _, .func z, _⟩ => (He.dflB K z.defaults d.dv && He.kwdB K z.kwdefaults d.kw) && PySem.W.codeIn K z.code d.ql
  | _ => false) && PySem.W.keepIn K (.ref (d.ad K))
theorem Df.fn {K : PySem.W.Frag} {d : Df} (s : d.see K = d.due) (g : d.good K = true) : ∃ fd, FunD K d.nm d.ql (defArgs d.st) (defBody d.st) (defScope d.st) d.dv d.kw (d.ad K) fd := by
  obtain ⟨g1, g2⟩ := He.ba g
  unfold Df.see at s
  cases e : K.lookup (d.ad K) with
  | none => simp only [e] at g1; cases g1
  | some o =>
    obtain ⟨c, dd, dt, sl⟩ := o
    cases dt with
    | func z =>
      simp only [e] at g1 s
      obtain ⟨g3, g4⟩ := He.ba g1
      obtain ⟨g5, g6⟩ := He.ba g3
      obtain ⟨a1, a2, a3, a4, a5, a6, a7, a8, a9, a10, a11, a12, a13, a14, a15⟩ := z
      simp only [Df.due, Option.some.injEq, Prod.mk.injEq] at s
      obtain ⟨h1, h2, h3, h4, h5, h6, h7, h8⟩ := s
      subst h1 h2 h3 h4 h5 h6 h7 h8
      exact ⟨_, ⟨c, dd, a8, a9, a10, a11, a12, a13, a14, sl, rfl, e, g4, He.dflB_ok g5, He.kwdB_ok g6⟩, g2⟩
    | _ => simp only [e] at g1; cases g1
theorem plain {K : PySem.W.Frag} {x q : Str} {st : Stmt} {f : Addr} {fd : FuncData} (F : FunD K x q (defArgs st) (defBody st) (defScope st) [] [] f fd) : Fun K x q st f fd := by
  obtain ⟨⟨oc, od, dV, kV, doc, pm, an, cdv, ct, sl, e, l, c, hd, _⟩, kp⟩ := F
  rcases hd with ⟨_, z⟩ | ⟨z, _⟩
  · subst z; exact ⟨⟨oc, od, kV, doc, pm, an, cdv, ct, sl, e, l, c⟩, kp⟩
  · exact absurd rfl z
/-! what objects name, layer by layer: no code objects, no classes' bases -/
def refs (o : Obj) : List Addr := match o.cls with
  | .type "code" => []
  | _ => match o.data with
    | .seq its _ => its.toList.flatMap He.refV
    | .dict es _ => es.toList.flatMap fun e => He.refV e.val
    | .func z => He.refV z.code ++ (He.refV z.defaults ++ He.refV z.kwdefaults)
    | .cls c => [c.ns]
    | .fields vs => vs.toList.flatMap He.refV
    | _ => []
def nxt (g : Addr → Option Obj) (l : List Addr) : List Addr := l.flatMap fun a => match g a with
  | some o => refs o
  | none => []
def layers (g : Addr → Option Obj) : Nat → List Addr → List Addr
  | 0, l => l
  | n + 1, l => l ++ layers g n (nxt g l)
def part (n : Nat) (g : Addr → Option Obj) : PySem.W.Frag := He.frG g (layers g n [mainGlobals])
/-- the part, its spine and addresses computed ahead of what follows -/
def pin {α : Type} : PySem.W.Frag → (PySem.W.Frag → α) → α
  | [], k => k []
  | (a, o) :: r, k => HandSHeadRun.frNat a fun a => pin r fun r => k ((a, o) :: r)
theorem pin_eq {α : Type} : ∀ (l : PySem.W.Frag) (k : PySem.W.Frag → α), pin l k = k l
  | [], _ => rfl
  | (a, o) :: r, k => by
    show HandSHeadRun.frNat a (fun a => pin r fun r => k ((a, o) :: r)) = _
    rw [HandSHeadRun.frNat_eq, pin_eq r]
abbrev Al : Type := Bool × List He.FnW × List (Option (List (Option (Str × Int))))
def tell (fn : List Df) (ts : List He.Tab) (ex : PySem.W.Frag → Bool) (K : PySem.W.Frag) : Al := (ex K && fn.all fun d => d.good K, fn.map fun d => d.see K, ts.map fun t => He.dicW K (t.1 K))
def told (fn : List Df) (ts : List He.Tab) (w : World) : Al := (true, fn.map Df.due, ts.map fun t => some (He.keysIn w.params t.2))
def hook (n : Nat) (fn : List Df) (ts : List He.Tab) (ex : PySem.W.Frag → Bool) : PySem.W.Hook where
  α := Al
  obs := fun s => tell fn ts ex (part n s.heap.get?)
  val := fun w => told fn ts w
  says := fun w h => ∃ K : PySem.W.Frag, K.In h ∧ tell fn ts ex K = told fn ts w
  of := fun _ _ e => ⟨_, He.frG_in, e⟩
  keeps := fun _ _ _ ⟨K, hK, c⟩ k => ⟨K, PySem.W.Frag.In.keeps hK k, c⟩
def ob (n : Nat) (fn : List Df) (ts : List He.Tab) (ex : PySem.W.Frag → Bool) (s : PySem.W.SharedT) : Al := pin (part n (HandSHeadRun.getT s)) (tell fn ts ex)
theorem ob_eq {n : Nat} {fn : List Df} {ts : List He.Tab} {ex : PySem.W.Frag → Bool} (s : PySem.W.SharedT) : ob n fn ts ex s = (hook n fn ts ex).obs s.abs := by
  have e : HandSHeadRun.getT s = s.abs.heap.get? := funext (HandSHeadRun.getT_eq s)
  unfold ob
  rw [pin_eq, e]
  rfl
section
variable {fn : List Df} {ts : List He.Tab} {ex : PySem.W.Frag → Bool} {w : World} {K : PySem.W.Frag}
theorem exOf (c : tell fn ts ex K = told fn ts w) : ex K = true := (He.ba (congrArg (fun z : Al => z.1) c)).1
theorem fnOf (c : tell fn ts ex K = told fn ts w) (i : Nat) {d : Df} (h : fn[i]? = some d) : ∃ fd, FunD K d.nm d.ql (defArgs d.st) (defBody d.st) (defScope d.st) d.dv d.kw (d.ad K) fd := by
  have c2 := (He.ba (show (ex K && fn.all fun d => d.good K) = true from congrArg (fun z : Al => z.1) c)).2
  have e : fn.map (fun d => d.see K) = fn.map Df.due := congrArg (fun z : Al => z.2.1) c
  have e2 := congrArg (fun l : List He.FnW => l[i]?) e
  simp only [List.getElem?_map, h, Option.map_some, Option.some.injEq] at e2
  exact Df.fn e2 (List.all_eq_true.mp c2 d (List.mem_of_getElem? h))
theorem tabOf (c : tell fn ts ex K = told fn ts w) (i : Nat) {t : He.Tab} (h : ts[i]? = some t) : ∃ es n, KDict K w (t.1 K) es n := by
  have e : ts.map (fun t => He.dicW K (t.1 K)) = ts.map fun t => some (He.keysIn w.params t.2) := congrArg (fun z : Al => z.2.2) c
  have e2 := congrArg (fun l : List (Option (List (Option (Str × Int)))) => l[i]?) e
  simp only [List.getElem?_map, h, Option.map_some, Option.some.injEq] at e2
  exact He.dicW_ok e2
end
/-! addresses and values off what is looked at -/
def adr (o : Option (Option Value)) : Addr := match o with
  | some (some (.ref a)) => a
  | _ => 0
def opt (o : Option (Option Value)) : Option Value := match o with
  | some v => v
  | none => none
def tok (o : Option (Option Value)) : Tok := match o with
  | some (some (.int _ t)) => t
  | some (some (.str _ t)) => t
  | _ => 0
def rec1 (o : Option (List Value)) : Addr := match o with
  | some (.ref a :: _) => a
  | _ => 0
def recR (o : Option (List Value)) : List Value := match o with
  | some (_ :: r) => r
  | _ => []
def stA (o : Option PySem.W.CFound) : Addr := match o with
  | some (.get _ (.ref a) _ _) => a
  | _ => 0
def stB (o : Option PySem.W.CFound) (C : Addr) : Bool := match o with
  | some (.get (.builtin b) (.ref _) .none (.ref c)) => decide (b = "staticmethod.__get__") && decide (c = C)
  | _ => false
theorem stB_ok {o : Option PySem.W.CFound} {C : Addr} (h : stB o C = true) : o = some (.get (.builtin "staticmethod.__get__") (.ref (stA o)) .none (.ref C)) := by
  unfold stB at h
  split at h
  · obtain ⟨h1, h2⟩ := He.ba h
    rw [of_decide_eq_true h1, of_decide_eq_true h2]
    rfl
  · cases h
def tupB (K : PySem.W.Frag) (a : Addr) (vs : List V) : Bool := match K.lookup a with
  | some ⟨.type c, _, .seq its _, _⟩ => decide (c = "tuple") && (decide (its.size ≤ sizeLine) && He.relAll vs its.toList)
  | _ => false
theorem tupB_ok {K : PySem.W.Frag} {a : Addr} {vs : List V} (h : tupB K a vs = true) : ∀ H : Hp, SqT K H a vs := by
  intro H
  unfold tupB at h
  split at h
  · rename_i c d its n sl e
    obtain ⟨h1, h2⟩ := He.ba h
    obtain ⟨h3, h4⟩ := He.ba h2
    exact .inr ⟨_, its, n, e, congrArg Value.type (of_decide_eq_true h1), rfl, of_decide_eq_true h3, He.relAll_ok h4⟩
  · cases h
def noR (o : Option Value) : Bool := match o with
  | none => true
  | some (.ref _) => true
  | _ => false
theorem noR_ok {o : Option Value} (h : noR o = true) : o = none ∨ ∃ g : Addr, o = some (.ref g) := by
  unfold noR at h
  split at h
  · exact .inl rfl
  · exact .inr ⟨_, rfl⟩
  · cases h
end Hd

namespace Pk14
open PySem L2
def top (i : Nat) : Stmt := PySem.Challenge.pw_ringindexes_k14_slots_read_and_laid.main.body.getD i (.Pass ⟨0, 0, 0, 0⟩)
abbrev s_is_whole : Stmt := top 12
abbrev s_is_whole_from : Stmt := top 13
abbrev s_Slotsu__initu_ : Stmt := inClass (top 16) 0
abbrev s_Slotsu_check_slot : Stmt := inClass (top 16) 5
abbrev s_Slotsu__getitemu_ : Stmt := inClass (top 16) 1
abbrev s_Slotsu__setitemu_ : Stmt := inClass (top 16) 2
abbrev s_Slotsu__lenu_ : Stmt := inClass (top 16) 3
abbrev s_l_source : Stmt := top 18
abbrev s_l_draw : Stmt := top 19
abbrev s_l_pick : Stmt := top 20
abbrev s_l_kind : Stmt := top 21
abbrev s_l_lay : Stmt := top 22
abbrev s_l_error : Stmt := top 23
abbrev s_l_read : Stmt := top 24
abbrev s_law : Stmt := top 25
theorem q_check_slot_laid : ¬ (("_check_slot" : Str) = "_laid") := by decide +kernel
theorem q_laid_check_slot : ¬ (("_laid" : Str) = "_check_slot") := by decide +kernel
local macro_rules | `(tactic| walk_at "lk") => `(tactic| first | with_unfolding_all rfl | (simp only [List.lookup, L2.putF, beq_iff_eq, beq_self_eq_true, q_check_slot_laid, (beq_eq_false_iff_ne.mpr q_check_slot_laid), q_laid_check_slot, (beq_eq_false_iff_ne.mpr q_laid_check_slot)]; first | done | rfl))
structure Adr where
  f_is_whole : Addr
  d_is_whole : FuncData
  f_is_whole_from : Addr
  d_is_whole_from : FuncData
  f_Slotsu__initu_ : Addr
  d_Slotsu__initu_ : FuncData
  f_Slotsu_check_slot : Addr
  d_Slotsu_check_slot : FuncData
  f_Slotsu__getitemu_ : Addr
  d_Slotsu__getitemu_ : FuncData
  f_Slotsu__setitemu_ : Addr
  d_Slotsu__setitemu_ : FuncData
  f_Slotsu__lenu_ : Addr
  d_Slotsu__lenu_ : FuncData
  f_l_source : Addr
  d_l_source : FuncData
  f_l_draw : Addr
  d_l_draw : FuncData
  f_l_pick : Addr
  d_l_pick : FuncData
  f_l_kind : Addr
  d_l_kind : FuncData
  f_l_lay : Addr
  d_l_lay : FuncData
  f_l_error : Addr
  d_l_error : FuncData
  f_l_read : Addr
  d_l_read : FuncData
  f_law : Addr
  d_law : FuncData
  c_Slots : Addr
  c_RingError : Addr
  c_NoForm : Addr
  c_NoCounter : Addr
  c_NoScheme : Addr
  c_NoRing : Addr
  c_NoRun : Addr
  c_NoSet : Addr
  c_TooLong : Addr
  c_NoSize : Addr
  c_Outside : Addr
  t_MOST_SLOTS : Tok
abbrev R : PySem.W.OpenRow := PySem.W.OpenLaw.row PySem.Challenge.rw_ringindexes_k14_slots_read_and_laid
abbrev Px0 (K : PySem.W.Frag) : Prop := (PySem.W.nsIn K mainGlobals "ValueError" = some none) ∧ (PySem.W.nsIn K mainGlobals "abs" = some none) ∧ (PySem.W.nsIn K mainGlobals "bool" = some none) ∧ (PySem.W.nsIn K mainGlobals "int" = some none) ∧ (PySem.W.nsIn K mainGlobals "isinstance" = some none) ∧ (PySem.W.nsIn K mainGlobals "len" = some none) ∧ (PySem.W.nsIn K mainGlobals "max" = some none) ∧ (PySem.W.nsIn K mainGlobals "min" = some none) ∧ (PySem.W.nsIn K mainGlobals "range" = some none) ∧ (PySem.W.nsIn K mainGlobals "zip" = some none) ∧ (PySem.W.nsIn K mainGlobals "MOST_SLOTS" = some (some (.int (10000) (Hd.tok (PySem.W.nsIn K mainGlobals "MOST_SLOTS"))))) ∧ (PySem.W.nsIn K mainGlobals "NoSize" = some (some (.ref (He.ga K "NoSize"))))
abbrev Px1 (K : PySem.W.Frag) : Prop := (PySem.W.nsIn K mainGlobals "Outside" = some (some (.ref (He.ga K "Outside")))) ∧ (PySem.W.nsIn K mainGlobals "Slots" = some (some (.ref (He.ga K "Slots")))) ∧ (PySem.W.findIn K (.ref (He.ga K "Slots")) "_laid" = some none) ∧ (PySem.W.nsIn K mainGlobals "RingError" = some (some (.ref (He.ga K "RingError")))) ∧ (PySem.W.nsIn K mainGlobals "NoForm" = some (some (.ref (He.ga K "NoForm")))) ∧ (PySem.W.nsIn K mainGlobals "NoCounter" = some (some (.ref (He.ga K "NoCounter")))) ∧ (PySem.W.nsIn K mainGlobals "NoScheme" = some (some (.ref (He.ga K "NoScheme")))) ∧ (PySem.W.nsIn K mainGlobals "NoRing" = some (some (.ref (He.ga K "NoRing")))) ∧ (PySem.W.nsIn K mainGlobals "NoRun" = some (some (.ref (He.ga K "NoRun")))) ∧ (PySem.W.nsIn K mainGlobals "NoSet" = some (some (.ref (He.ga K "NoSet")))) ∧ (PySem.W.nsIn K mainGlobals "TooLong" = some (some (.ref (He.ga K "TooLong")))) ∧ (PySem.W.nsIn K mainGlobals "is_whole" = some (some (.ref (He.ga K "is_whole"))))
abbrev Px2 (K : PySem.W.Frag) : Prop := (PySem.W.nsIn K mainGlobals "is_whole_from" = some (some (.ref (He.ga K "is_whole_from")))) ∧ (PySem.W.nsIn K mainGlobals "_law_source" = some (some (.ref (He.ga K "_law_source")))) ∧ (PySem.W.nsIn K mainGlobals "_law_draw" = some (some (.ref (He.ga K "_law_draw")))) ∧ (PySem.W.nsIn K mainGlobals "_law_pick" = some (some (.ref (He.ga K "_law_pick")))) ∧ (PySem.W.nsIn K mainGlobals "_law_kind" = some (some (.ref (He.ga K "_law_kind")))) ∧ (PySem.W.nsIn K mainGlobals "_law_lay" = some (some (.ref (He.ga K "_law_lay")))) ∧ (PySem.W.nsIn K mainGlobals "_law_error" = some (some (.ref (He.ga K "_law_error")))) ∧ (PySem.W.nsIn K mainGlobals "_law_read" = some (some (.ref (He.ga K "_law_read")))) ∧ (PySem.W.nsIn K mainGlobals "law" = some (some (.ref (He.ga K "law")))) ∧ (PySem.W.findIn K (.ref (He.ga K "Slots")) "__init__" = some (some (.ref (He.ma K (He.ga K "Slots") "__init__")))) ∧ (PySem.W.findIn K (.ref (He.ga K "Slots")) "_check_slot" = some (some (.ref (He.ma K (He.ga K "Slots") "_check_slot")))) ∧ (PySem.W.findIn K (.ref (He.ga K "Slots")) "__getitem__" = some (some (.ref (He.ma K (He.ga K "Slots") "__getitem__"))))
abbrev Px3 (K : PySem.W.Frag) : Prop := (PySem.W.findIn K (.ref (He.ga K "Slots")) "__setitem__" = some (some (.ref (He.ma K (He.ga K "Slots") "__setitem__")))) ∧ (PySem.W.findIn K (.ref (He.ga K "Slots")) "__len__" = some (some (.ref (He.ma K (He.ga K "Slots") "__len__")))) ∧ (PySem.W.excIn K (He.ga K "NoSize") [.type "ValueError", .type "Exception", .type "BaseException", .type "object"] "ValueError.__new__" = true) ∧ (PySem.W.keepIn K (.ref (He.ga K "NoSize")) = true) ∧ (PySem.W.subIn K (.ref (He.ga K "NoSize")) (.type "BaseException") = some true) ∧ (PySem.W.typeIn K (.ref (He.ga K "NoSize")) = some (.type "type")) ∧ (PySem.W.excIn K (He.ga K "Outside") [.type "ValueError", .type "Exception", .type "BaseException", .type "object"] "ValueError.__new__" = true) ∧ (PySem.W.keepIn K (.ref (He.ga K "Outside")) = true) ∧ (PySem.W.subIn K (.ref (He.ga K "Outside")) (.type "BaseException") = some true) ∧ (PySem.W.typeIn K (.ref (He.ga K "Outside")) = some (.type "type")) ∧ (PySem.W.plainGet K (He.ga K "Slots") Str.empty = true) ∧ (PySem.W.hasDictIn K (He.ga K "Slots") = true)
abbrev Px4 (K : PySem.W.Frag) : Prop := (PySem.W.plainOver K (He.ga K "Slots") = true) ∧ (PySem.W.findIn K (.ref (He.ga K "Slots")) "__setattr__" = some (some (.builtin "object.__setattr__"))) ∧ (PySem.W.makesIn K (He.ga K "Slots") = true) ∧ (PySem.W.isFn K (.ref (He.ma K (He.ga K "Slots") "__init__")) = true) ∧ (PySem.W.keepIn K (.ref (He.ga K "Slots")) = true) ∧ (PySem.W.noSeq K (He.ga K "Slots") = true) ∧ (PySem.W.isFn K (.ref (He.ma K (He.ga K "Slots") "_check_slot")) = true) ∧ (PySem.W.isFn K (.ref (He.ma K (He.ga K "Slots") "__getitem__")) = true) ∧ (PySem.W.fnIn K (He.ma K (He.ga K "Slots") "__getitem__") = true) ∧ (PySem.W.isFn K (.ref (He.ma K (He.ga K "Slots") "__setitem__")) = true) ∧ (PySem.W.isFn K (.ref (He.ma K (He.ga K "Slots") "__len__")) = true) ∧ (PySem.W.kitOne K (.ref (He.ga K "NoSize")) (.ref (He.ga K "NoForm")) = some false)
abbrev Px5 (K : PySem.W.Frag) : Prop := (PySem.W.kitOne K (.ref (He.ga K "NoSize")) (.ref (He.ga K "NoCounter")) = some false) ∧ (PySem.W.kitOne K (.ref (He.ga K "NoSize")) (.ref (He.ga K "NoScheme")) = some false) ∧ (PySem.W.kitOne K (.ref (He.ga K "NoSize")) (.ref (He.ga K "NoSize")) = some true) ∧ (PySem.W.kitOne K (.ref (He.ga K "NoSize")) (.ref (He.ga K "NoRing")) = some false) ∧ (PySem.W.kitOne K (.ref (He.ga K "NoSize")) (.ref (He.ga K "Outside")) = some false) ∧ (PySem.W.kitOne K (.ref (He.ga K "NoSize")) (.ref (He.ga K "NoRun")) = some false) ∧ (PySem.W.kitOne K (.ref (He.ga K "NoSize")) (.ref (He.ga K "NoSet")) = some false) ∧ (PySem.W.kitOne K (.ref (He.ga K "NoSize")) (.ref (He.ga K "TooLong")) = some false) ∧ (PySem.W.kitOne K (.ref (He.ga K "NoSize")) (.type "ValueError") = some true) ∧ (PySem.W.subIn K (.ref (He.ga K "RingError")) (.type "BaseException") = some true) ∧ (PySem.W.hasDictIn K (He.ga K "RingError") = true) ∧ (PySem.W.typeIn K (.ref (He.ga K "RingError")) = some (.type "type"))
abbrev Px6 (K : PySem.W.Frag) : Prop := (PySem.W.subIn K (.ref (He.ga K "NoSize")) (.ref (He.ga K "RingError")) = some true) ∧ (PySem.W.findIn K (.ref (He.ga K "NoSize")) "__getattribute__" = some (some (.builtin "BaseException.__getattribute__"))) ∧ (PySem.W.findIn K (.ref (He.ga K "NoSize")) "__getattr__" = some none) ∧ (PySem.W.hasDictIn K (He.ga K "NoSize") = true) ∧ (PySem.W.findIn K (.ref (He.ga K "NoSize")) "__class__" = some (some (.builtin "object.__class__"))) ∧ (PySem.W.specialIn K (.builtin "object.__class__") "__get__" = some (some (.builtin "getset_descriptor.__get__"))) ∧ (PySem.W.takesIn K (.builtin "object.__class__") = some true) ∧ (PySem.W.mroIn K (He.ga K "NoSize") (.type "object") = some true) ∧ (PySem.W.kitOne K (.ref (He.ga K "Outside")) (.ref (He.ga K "NoForm")) = some false) ∧ (PySem.W.kitOne K (.ref (He.ga K "Outside")) (.ref (He.ga K "NoCounter")) = some false) ∧ (PySem.W.kitOne K (.ref (He.ga K "Outside")) (.ref (He.ga K "NoScheme")) = some false) ∧ (PySem.W.kitOne K (.ref (He.ga K "Outside")) (.ref (He.ga K "NoSize")) = some false)
abbrev Px7 (K : PySem.W.Frag) : Prop := (PySem.W.kitOne K (.ref (He.ga K "Outside")) (.ref (He.ga K "NoRing")) = some false) ∧ (PySem.W.kitOne K (.ref (He.ga K "Outside")) (.ref (He.ga K "Outside")) = some true) ∧ (PySem.W.kitOne K (.ref (He.ga K "Outside")) (.ref (He.ga K "NoRun")) = some false) ∧ (PySem.W.kitOne K (.ref (He.ga K "Outside")) (.ref (He.ga K "NoSet")) = some false) ∧ (PySem.W.kitOne K (.ref (He.ga K "Outside")) (.ref (He.ga K "TooLong")) = some false) ∧ (PySem.W.kitOne K (.ref (He.ga K "Outside")) (.type "ValueError") = some true) ∧ (PySem.W.subIn K (.ref (He.ga K "Outside")) (.ref (He.ga K "RingError")) = some true) ∧ (PySem.W.findIn K (.ref (He.ga K "Outside")) "__getattribute__" = some (some (.builtin "BaseException.__getattribute__"))) ∧ (PySem.W.findIn K (.ref (He.ga K "Outside")) "__getattr__" = some none) ∧ (PySem.W.hasDictIn K (He.ga K "Outside") = true) ∧ (PySem.W.findIn K (.ref (He.ga K "Outside")) "__class__" = some (some (.builtin "object.__class__"))) ∧ (PySem.W.mroIn K (He.ga K "Outside") (.type "object") = some true)
def exs (K : PySem.W.Frag) : Bool := decide (Px0 K) && (decide (Px1 K) && (decide (Px2 K) && (decide (Px3 K) && (decide (Px4 K) && (decide (Px5 K) && (decide (Px6 K) && (decide (Px7 K) && (true))))))))
def df0 : Hd.Df := ⟨fun K => (He.ga K "is_whole"), "is_whole", "is_whole", s_is_whole, [], []⟩
def df1 : Hd.Df := ⟨fun K => (He.ga K "is_whole_from"), "is_whole_from", "is_whole_from", s_is_whole_from, [], []⟩
def df2 : Hd.Df := ⟨fun K => (He.ma K (He.ga K "Slots") "__init__"), "__init__", "Slots.__init__", s_Slotsu__initu_, [], []⟩
def df3 : Hd.Df := ⟨fun K => (He.ma K (He.ga K "Slots") "_check_slot"), "_check_slot", "Slots._check_slot", s_Slotsu_check_slot, [], []⟩
def df4 : Hd.Df := ⟨fun K => (He.ma K (He.ga K "Slots") "__getitem__"), "__getitem__", "Slots.__getitem__", s_Slotsu__getitemu_, [], []⟩
def df5 : Hd.Df := ⟨fun K => (He.ma K (He.ga K "Slots") "__setitem__"), "__setitem__", "Slots.__setitem__", s_Slotsu__setitemu_, [], []⟩
def df6 : Hd.Df := ⟨fun K => (He.ma K (He.ga K "Slots") "__len__"), "__len__", "Slots.__len__", s_Slotsu__lenu_, [], []⟩
def df7 : Hd.Df := ⟨fun K => (He.ga K "_law_source"), "_law_source", "_law_source", s_l_source, [], []⟩
def df8 : Hd.Df := ⟨fun K => (He.ga K "_law_draw"), "_law_draw", "_law_draw", s_l_draw, [], []⟩
def df9 : Hd.Df := ⟨fun K => (He.ga K "_law_pick"), "_law_pick", "_law_pick", s_l_pick, [], []⟩
def df10 : Hd.Df := ⟨fun K => (He.ga K "_law_kind"), "_law_kind", "_law_kind", s_l_kind, [], []⟩
def df11 : Hd.Df := ⟨fun K => (He.ga K "_law_lay"), "_law_lay", "_law_lay", s_l_lay, [], []⟩
def df12 : Hd.Df := ⟨fun K => (He.ga K "_law_error"), "_law_error", "_law_error", s_l_error, [], []⟩
def df13 : Hd.Df := ⟨fun K => (He.ga K "_law_read"), "_law_read", "_law_read", s_l_read, [], []⟩
def df14 : Hd.Df := ⟨fun K => (He.ga K "law"), "law", "law", s_law, [], []⟩
def fns : List Hd.Df := [df0, df1, df2, df3, df4, df5, df6, df7, df8, df9, df10, df11, df12, df13, df14]
def nm0 : List Str := ["RingError", "NoForm", "NoCounter", "NoSize", "NoRing", "Outside", "NoSet", "TooLong", "NoScheme", "NoRun", "is_whole", "is_whole_from", "MOST_SLOTS", "Slots", "_law_source", "_law_draw", "_law_pick", "_law_kind", "_law_lay", "_law_error", "_law_read"]
def loose : List Str := nm0
def tbs : List He.Tab := []
abbrev hk : PySem.W.Hook := Hd.hook 6 fns tbs exs
def ob (s : PySem.W.SharedT) : Hd.Al := Hd.ob 6 fns tbs exs s
theorem ob_is (s : PySem.W.SharedT) : ob s = hk.obs s.abs := Hd.ob_eq s
theorem run_false (w : World) : HandSHeadRun.RunEq R (PySem.W.view R.prog [25]) hk ob 200000 loose (w.withFollow "special-get-raises" false) := fun os => by kernel_rfl
theorem run_true (w : World) : HandSHeadRun.RunEq R (PySem.W.view R.prog [25]) hk ob 200000 loose (w.withFollow "special-get-raises" true) := fun os => by kernel_rfl
theorem run (w : World) : HandSHeadRun.RunEq R (PySem.W.view R.prog [25]) hk ob 200000 loose w := PySem.W.byRow2 "special-get-raises" (P := fun w => HandSHeadRun.RunEq R (PySem.W.view R.prog [25]) hk ob 200000 loose w) run_false run_true w
structure Txt (w : World) (K : PySem.W.Frag) (mg : Str → Option Value) (A : Adr) : Prop where
  n_ValueError : mg "ValueError" = none
  n_abs : mg "abs" = none
  n_bool : mg "bool" = none
  n_int : mg "int" = none
  n_isinstance : mg "isinstance" = none
  n_len : mg "len" = none
  n_max : mg "max" = none
  n_min : mg "min" = none
  n_range : mg "range" = none
  n_zip : mg "zip" = none
  m_MOST_SLOTS : mg "MOST_SLOTS" = some (.int (10000) A.t_MOST_SLOTS)
  m_NoSize : mg "NoSize" = some (.ref A.c_NoSize)
  x_NoSize : PySem.W.excIn K A.c_NoSize [.type "ValueError", .type "Exception", .type "BaseException", .type "object"] "ValueError.__new__" = true
  kp_NoSize : PySem.W.keepIn K (.ref A.c_NoSize) = true
  sb_NoSize : PySem.W.subIn K (.ref A.c_NoSize) (.type "BaseException") = some true
  tc_NoSize : PySem.W.typeIn K (.ref A.c_NoSize) = some (.type "type")
  m_Outside : mg "Outside" = some (.ref A.c_Outside)
  x_Outside : PySem.W.excIn K A.c_Outside [.type "ValueError", .type "Exception", .type "BaseException", .type "object"] "ValueError.__new__" = true
  kp_Outside : PySem.W.keepIn K (.ref A.c_Outside) = true
  sb_Outside : PySem.W.subIn K (.ref A.c_Outside) (.type "BaseException") = some true
  tc_Outside : PySem.W.typeIn K (.ref A.c_Outside) = some (.type "type")
  m_Slots : mg "Slots" = some (.ref A.c_Slots)
  k_Slots : Cls K A.c_Slots
  n_Slots_laid : NoAttr K A.c_Slots "_laid"
  K_Slots : Mk K A.c_Slots A.f_Slotsu__initu_
  nq_Slots : PySem.W.noSeq K A.c_Slots = true
  m_RingError : mg "RingError" = some (.ref A.c_RingError)
  m_NoForm : mg "NoForm" = some (.ref A.c_NoForm)
  m_NoCounter : mg "NoCounter" = some (.ref A.c_NoCounter)
  m_NoScheme : mg "NoScheme" = some (.ref A.c_NoScheme)
  m_NoRing : mg "NoRing" = some (.ref A.c_NoRing)
  m_NoRun : mg "NoRun" = some (.ref A.c_NoRun)
  m_NoSet : mg "NoSet" = some (.ref A.c_NoSet)
  m_TooLong : mg "TooLong" = some (.ref A.c_TooLong)
  m_is_whole : mg "is_whole" = some (.ref A.f_is_whole)
  F_is_whole : Fun K "is_whole" "is_whole" s_is_whole A.f_is_whole A.d_is_whole
  b_is_whole : Binds K A.d_is_whole ["thing"] []
  m_is_whole_from : mg "is_whole_from" = some (.ref A.f_is_whole_from)
  F_is_whole_from : Fun K "is_whole_from" "is_whole_from" s_is_whole_from A.f_is_whole_from A.d_is_whole_from
  b_is_whole_from : Binds K A.d_is_whole_from ["thing", "low", "high"] []
  F_Slotsu__initu_ : Fun K "__init__" "Slots.__init__" s_Slotsu__initu_ A.f_Slotsu__initu_ A.d_Slotsu__initu_
  b_Slotsu__initu_ : Binds K A.d_Slotsu__initu_ ["self", "n"] []
  M_Slotsu_check_slot : Meth K A.c_Slots "_check_slot" A.f_Slotsu_check_slot
  F_Slotsu_check_slot : Fun K "_check_slot" "Slots._check_slot" s_Slotsu_check_slot A.f_Slotsu_check_slot A.d_Slotsu_check_slot
  b_Slotsu_check_slot : Binds K A.d_Slotsu_check_slot ["self", "at"] []
  F_Slotsu__getitemu_ : Fun K "__getitem__" "Slots.__getitem__" s_Slotsu__getitemu_ A.f_Slotsu__getitemu_ A.d_Slotsu__getitemu_
  b_Slotsu__getitemu_ : Binds K A.d_Slotsu__getitemu_ ["self", "at"] []
  F_Slotsu__setitemu_ : Fun K "__setitem__" "Slots.__setitem__" s_Slotsu__setitemu_ A.f_Slotsu__setitemu_ A.d_Slotsu__setitemu_
  b_Slotsu__setitemu_ : Binds K A.d_Slotsu__setitemu_ ["self", "at", "worth"] []
  F_Slotsu__lenu_ : Fun K "__len__" "Slots.__len__" s_Slotsu__lenu_ A.f_Slotsu__lenu_ A.d_Slotsu__lenu_
  b_Slotsu__lenu_ : Binds K A.d_Slotsu__lenu_ ["self"] []
  m_l_source : mg "_law_source" = some (.ref A.f_l_source)
  F_l_source : Fun K "_law_source" "_law_source" s_l_source A.f_l_source A.d_l_source
  b_l_source : Binds K A.d_l_source ["_law_script", "_law_turn"] []
  m_l_draw : mg "_law_draw" = some (.ref A.f_l_draw)
  F_l_draw : Fun K "_law_draw" "_law_draw" s_l_draw A.f_l_draw A.d_l_draw
  b_l_draw : Binds K A.d_l_draw ["_law_source_here", "_law_amount"] []
  m_l_pick : mg "_law_pick" = some (.ref A.f_l_pick)
  F_l_pick : Fun K "_law_pick" "_law_pick" s_l_pick A.f_l_pick A.d_l_pick
  b_l_pick : Binds K A.d_l_pick ["_law_source_here", "_law_items"] []
  m_l_kind : mg "_law_kind" = some (.ref A.f_l_kind)
  F_l_kind : Fun K "_law_kind" "_law_kind" s_l_kind A.f_l_kind A.d_l_kind
  b_l_kind : Binds K A.d_l_kind ["_law_e"] []
  m_l_lay : mg "_law_lay" = some (.ref A.f_l_lay)
  F_l_lay : Fun K "_law_lay" "_law_lay" s_l_lay A.f_l_lay A.d_l_lay
  b_l_lay : Binds K A.d_l_lay ["_law_slots", "_law_at", "_law_value"] []
  m_l_error : mg "_law_error" = some (.ref A.f_l_error)
  F_l_error : Fun K "_law_error" "_law_error" s_l_error A.f_l_error A.d_l_error
  b_l_error : Binds K A.d_l_error ["_law_way", "_law_slots", "_law_at"] []
  m_l_read : mg "_law_read" = some (.ref A.f_l_read)
  F_l_read : Fun K "_law_read" "_law_read" s_l_read A.f_l_read A.d_l_read
  b_l_read : Binds K A.d_l_read ["_law_slots", "_law_places"] []
  m_law : mg "law" = some (.ref A.f_law)
  F_law : Fun K "law" "law" s_law A.f_law A.d_law
  b_law : Binds K A.d_law ["_law_script"] []
  O_Slotsu__getitemu__1 : Own.Sp1 K A.c_Slots "__getitem__" A.f_Slotsu__getitemu_
  fi_Slotsu__getitemu_ : PySem.W.fnIn K A.f_Slotsu__getitemu_ = true
  O_Slotsu__setitemu__1 : Own.Sp1 K A.c_Slots "__setitem__" A.f_Slotsu__setitemu_
  O_Slotsu__lenu__1 : Own.Sp1 K A.c_Slots "__len__" A.f_Slotsu__lenu_
  kt_NoSize_in_NoForm : PySem.W.kitOne K (.ref A.c_NoSize) (.ref A.c_NoForm) = some false
  kt_NoSize_in_NoCounter : PySem.W.kitOne K (.ref A.c_NoSize) (.ref A.c_NoCounter) = some false
  kt_NoSize_in_NoScheme : PySem.W.kitOne K (.ref A.c_NoSize) (.ref A.c_NoScheme) = some false
  kt_NoSize_in_NoSize : PySem.W.kitOne K (.ref A.c_NoSize) (.ref A.c_NoSize) = some true
  kt_NoSize_in_NoRing : PySem.W.kitOne K (.ref A.c_NoSize) (.ref A.c_NoRing) = some false
  kt_NoSize_in_Outside : PySem.W.kitOne K (.ref A.c_NoSize) (.ref A.c_Outside) = some false
  kt_NoSize_in_NoRun : PySem.W.kitOne K (.ref A.c_NoSize) (.ref A.c_NoRun) = some false
  kt_NoSize_in_NoSet : PySem.W.kitOne K (.ref A.c_NoSize) (.ref A.c_NoSet) = some false
  kt_NoSize_in_TooLong : PySem.W.kitOne K (.ref A.c_NoSize) (.ref A.c_TooLong) = some false
  kt_NoSize_in_VE : PySem.W.kitOne K (.ref A.c_NoSize) (.type "ValueError") = some true
  xm_NoSize : PySem.W.exmOne K (.ref A.c_NoSize) (.ref A.c_RingError) = some true
  ec_NoSize : L2.ExcC K A.c_NoSize
  kt_Outside_in_NoForm : PySem.W.kitOne K (.ref A.c_Outside) (.ref A.c_NoForm) = some false
  kt_Outside_in_NoCounter : PySem.W.kitOne K (.ref A.c_Outside) (.ref A.c_NoCounter) = some false
  kt_Outside_in_NoScheme : PySem.W.kitOne K (.ref A.c_Outside) (.ref A.c_NoScheme) = some false
  kt_Outside_in_NoSize : PySem.W.kitOne K (.ref A.c_Outside) (.ref A.c_NoSize) = some false
  kt_Outside_in_NoRing : PySem.W.kitOne K (.ref A.c_Outside) (.ref A.c_NoRing) = some false
  kt_Outside_in_Outside : PySem.W.kitOne K (.ref A.c_Outside) (.ref A.c_Outside) = some true
  kt_Outside_in_NoRun : PySem.W.kitOne K (.ref A.c_Outside) (.ref A.c_NoRun) = some false
  kt_Outside_in_NoSet : PySem.W.kitOne K (.ref A.c_Outside) (.ref A.c_NoSet) = some false
  kt_Outside_in_TooLong : PySem.W.kitOne K (.ref A.c_Outside) (.ref A.c_TooLong) = some false
  kt_Outside_in_VE : PySem.W.kitOne K (.ref A.c_Outside) (.type "ValueError") = some true
  xm_Outside : PySem.W.exmOne K (.ref A.c_Outside) (.ref A.c_RingError) = some true
  ec_Outside : L2.ExcC K A.c_Outside

theorem SfreeR {H H' : Hp} {b : Nat} (h : H' b = none) (f : L2.Same H H') : H b = none := Sfree f h
/-- an object that is no integer: by its kind alone -/
def Odd (K : PySem.W.Frag) (H : Hp) (y : V) : Prop := ∃ t, TyX K H y t ∧ (PySem.W.kitOne K t (.type "int") = some false ∨ (PySem.W.kitOne K t (.type "int") = some true ∧ PySem.W.kitOne K t (.type "bool") = some true))
theorem Odd.same {K : PySem.W.Frag} {H H' : Hp} {y : V} (S : Same H H') (h : Odd K H y) : Odd K H' y := by
  obtain ⟨t, a, b⟩ := h
  exact ⟨t, Rd.tyx_same S a, b⟩
theorem oddV_odd {K : PySem.W.Frag} {H : Hp} {y : V} (h : Rd.OddV H y) : Odd K H y := by
  rcases h with h | ⟨b, rfl⟩
  · obtain ⟨t, hT, ty⟩ := h.ty (K := K)
    exact ⟨_, ty, .inl (Rd.kit_TS_int t hT)⟩
  · exact ⟨_, L2.TyX.base (L2.TyOf.bl _), .inr ⟨Rd.kit_bool_int, Rd.kit_bool_bool⟩⟩
local macro_rules | `(tactic| walk_at "tyx") => `(tactic| with_reducible assumption)
local macro_rules | `(tactic| walk_at "nn") => `(tactic| first | ((with_reducible apply SfreeR); (· with_reducible assumption); (· walk_at "frm")) | fail "nn")
local macro_rules | `(tactic| walk_at "odv") => `(tactic| first | with_reducible assumption | ((with_reducible apply Rd.OddV.sameR); (· with_reducible assumption); (· walk_at "frm")) | fail "odv")

def fS (l : Addr) : List (Str × V) := [("_laid", .ref l)]
theorem fS_l (l : Addr) : (fS l).lookup ("_laid" : Str) = some (V.ref l) := by unfold fS; walk_at "lk"
theorem fS_c (l : Addr) : (fS l).lookup ("_check_slot" : Str) = none := by unfold fS; walk_at "lk"
theorem fS_put (l : Addr) : putF "_laid" (.ref l) [] = fS l := rfl
local macro_rules | `(tactic| walk_at "lk") => `(tactic| first | exact fS_l _ | exact fS_c _)
local macro_rules | `(tactic| walk_at "sfl") => `(tactic| first | (unfold fS; with_unfolding_all exact Nat.le_of_ble_eq_true rfl) | fail "sfl")
theorem ixN_of {n : Nat} {k : Int} (h0 : 0 ≤ k) (h1 : k < (n : Int)) : ixN n k = some k.toNat := by
  unfold L2.ixN
  rw [if_pos h0, if_pos h1]
/-- what stands at x -/
def rd (os : List (Option Int)) (x : Int) : Option Int := (os[x.toNat]?).getD none
theorem rd_at {os : List (Option Int)} {x : Int} (h0 : 0 ≤ x) (h1 : x < (os.length : Int)) : atI (os.map Rd.ov) x = some (Rd.ov (rd os x)) := by
  obtain ⟨j, rfl⟩ := Int.eq_ofNat_of_zero_le h0
  have hj : j < os.length := by omega
  refine atI_nat ?_
  rw [List.getElem?_map, List.getElem?_eq_getElem hj]
  unfold rd
  rw [Int.toNat_natCast, List.getElem?_eq_getElem hj]
  rfl
theorem rd_set {os : List (Option Int)} {x y w : Int} (h0 : 0 ≤ x) (h1 : x < (os.length : Int)) (h2 : 0 ≤ y) : rd (os.set x.toNat (some w)) y = if y = x then some w else rd os y := by
  unfold rd
  rw [List.getElem?_set]
  by_cases e : y = x
  · subst e
    rw [if_pos rfl, if_pos rfl, if_pos (by omega)]; rfl
  · rw [if_neg e, if_neg (by omega)]
theorem rd_new {n : Nat} (x : Int) : rd (List.replicate n none) x = none := by
  unfold rd
  rw [List.getElem?_replicate]
  split <;> rfl
def BadS (K : PySem.W.Frag) (H : Hp) (n : Nat) (y : V) : Prop := (∃ i : Int, y = .int i ∧ i < 0) ∨ (∃ i : Int, y = .int i ∧ 0 ≤ i ∧ (n : Int) ≤ i) ∨ Odd K H y
def BadZ (K : PySem.W.Frag) (H : Hp) (y : V) : Prop := (∃ i : Int, y = .int i ∧ i < 1) ∨ (∃ i : Int, y = .int i ∧ 1 ≤ i ∧ 10000 < i) ∨ Odd K H y
theorem BadS.same {K : PySem.W.Frag} {H H' : Hp} {n : Nat} {y : V} (S : Same H H') (h : BadS K H n y) : BadS K H' n y := h.imp id fun h => h.imp id (Odd.same S)
theorem BadZ.same {K : PySem.W.Frag} {H H' : Hp} {y : V} (S : Same H H') (h : BadZ K H y) : BadZ K H' y := h.imp id fun h => h.imp id (Odd.same S)
theorem lenV {os : List (Option Int)} : (os.map Rd.ov).length = os.length := List.length_map _
local macro_rules | `(tactic| walk_at "sz") => `(tactic| exact Nat.lt_of_le_of_lt (m := 10020) (by (try simp only [List.length_map, List.length_replicate] at *); omega) (by decide +kernel))
local macro_rules | `(tactic| walk_at "dp") => `(tactic| first | ((with_reducible apply Rd.dp_listO); walk_at "hpl") | fail "dp")
local macro_rules | `(tactic| walk_at "shp") => `(tactic| first | exact Rd.shaped_listO _ | fail "shp")
local macro_rules | `(tactic| walk_at "bF") => `(tactic| first | exact Rd.neO (by with_reducible assumption) | exact Rd.neO rfl | fail "bF")
local macro_rules | `(tactic| walk_at "rep") => `(tactic| first | exact Nat.le_of_ble_eq_true rfl | decide)
local macro_rules | `(tactic| walk_at "ll0") => `(tactic| exact Nat.le_of_ble_eq_true rfl)
local macro_rules | `(tactic| walk_at "ll") => `(tactic| first | (simp only [List.length_map, List.length_cons, List.length_nil]; omega) | fail "ll")
local macro_rules | `(tactic| walk_at "dl") => `(tactic| first | (rw [L2.valV_put, if_pos rfl]; done) | fail "dl")

def Due (A : Adr) (C : Addr) (nm : Str) : Prop := (C = A.c_NoSize ∧ nm = "size") ∨ (C = A.c_Outside ∧ nm = "outside")

local macro_rules | `(tactic| walk_at "exm") => `(tactic| with_reducible assumption)
local macro_rules | `(tactic| walk_at "ln") => `(tactic| first | (show (_ : Int) < ((14 : Nat) : Int); walk_at "sc") | (show (_ : Int) < ((13 : Nat) : Int); walk_at "sc"))
local macro_rules | `(tactic| walk_at "dp") => `(tactic| ((with_reducible apply Rd.dp_ss); (walk_at "hpl")))
local macro_rules | `(tactic| walk_at "shp") => `(tactic| exact Rd.shaped_ss (by decide +kernel) (by decide +kernel))
local macro_rules | `(tactic| walk_at "bF") => `(tactic| (simp only [Rd.eqv_ss, Bool.not_true]; done))

local macro_rules | `(tactic| walk_at "due") => `(tactic| first | exact Or.inl ⟨rfl, rfl⟩ | exact Or.inr (Or.inl ⟨rfl, rfl⟩) | exact Or.inr (Or.inr ⟨rfl, rfl⟩))

local macro_rules | `(tactic| walk_at "due") => `(tactic| first | exact Or.inl ⟨rfl, rfl⟩ | exact Or.inr ⟨rfl, rfl⟩)

theorem made_get {H Hn : Hp} {x dx b : Addr} {u w o : HO} (F : Frm x (upd (upd H dx u) x w) Hn) (nx : H x = none) (nd : H dx = none) (h : H b = some o) : Hn b = some o := by
  have e1 : b ≠ x := fun z => by rw [z, nx] at h; cases h
  have e2 : b ≠ dx := fun z => by rw [z, nd] at h; cases h
  exact F b o (by rw [upd_ne e1, upd_ne e2]; exact h) e1
theorem mem8 {n : Int} {acc : List Int} (n1 : 1 ≤ n) (h : ∀ x ∈ acc, 0 ≤ x ∧ x < n) : ∀ x ∈ (0 : Int) :: (n - 1) :: acc, 0 ≤ x ∧ x < n := by
  intro x hx
  rcases List.mem_cons.mp hx with rfl | hx
  · omega
  rcases List.mem_cons.mp hx with rfl | hx
  · omega
  exact h x hx
theorem snoc_in {n y : Int} {acc : List Int} (h : ∀ x ∈ acc, 0 ≤ x ∧ x < n) (y0 : 0 ≤ y) (y1 : y < n) : ∀ x ∈ acc ++ [y], 0 ≤ x ∧ x < n := by
  intro x hx
  rcases List.mem_append.mp hx with hx | hx
  · exact h x hx
  · rcases List.mem_singleton.mp hx with rfl; exact ⟨y0, y1⟩
theorem new8 {n : Nat} : ∀ {ns : List Int} {m : Nat}, ns.length = m → ns.map (rd (List.replicate n none)) = List.replicate m none
  | [], _, h => by subst h; rfl
  | x :: r, _, h => by
    subst h
    show _ :: _ = _
    rw [rd_new, new8 (ns := r) rfl]; rfl
/-- what the dict tells is what stands in the slots -/
def Kept (ns : List Int) (os : List (Option Int)) (kvs : List (Key × V)) : Prop := ∀ x ∈ ns, Rd.ov (rd os x) = (valV kvs (.inl x)).getD .non
theorem kept_nil {n : Nat} {ns : List Int} : Kept ns (List.replicate n none) [] := fun x _ => by rw [rd_new]; rfl
theorem kept_put {ns : List Int} {os : List (Option Int)} {kvs : List (Key × V)} {x w : Int} (h : Kept ns os kvs) (hm : ∀ x ∈ ns, 0 ≤ x ∧ x < (os.length : Int)) (hx : x ∈ ns) : Kept ns (os.set x.toNat (some w)) (L2.putK kvs (.inl x) (.int w)) := by
  intro y hy
  obtain ⟨a0, a1⟩ := hm x hx
  rw [rd_set a0 a1 (hm y hy).1, L2.valV_put]
  by_cases e : y = x
  · subst e; rw [if_pos rfl, if_pos rfl]; rfl
  · rw [if_neg e, if_neg (fun z => e (Sum.inl.inj z))]; exact h y hy

section
variable {P : Program} {w : World} {K : PySem.W.Frag} {mg : Str → Option Value} {base : Heap} {A : Adr}
/-! is_whole -/
theorem sc_is_whole : FnScope ["thing"] ["thing"] (defScope s_is_whole) := ⟨rfl, rfl, rfl, by decide +kernel, rfl, by decide +kernel, by decide +kernel⟩
abbrev sp_is_whole (K : PySem.W.Frag) (A : Adr) : Sp := fun vs H Q _ => ∃ y : V, vs = [y] ∧ ((∃ i : Int, y = .int i ∧ Q (.bl true) H) ∨ (Odd K H y ∧ Q (.bl false) H))
theorem ok_is_whole (T : Txt w K mg A) : FnOk P w K mg base CX0 1 A.f_is_whole A.d_is_whole ["thing"] (sp_is_whole K A) := by
  refine T.F_is_whole.ok sc_is_whole (fun vs H Q E h => ?_) (fun cdv Ar outer s H vs Q E hr h => ?_)
  · obtain ⟨y, rfl, hy⟩ := h
    rfl
  · obtain ⟨y, rfl, hy⟩ := h
    have hu := hu_of hr
    have t_kt_NoSize_in_NoForm := T.kt_NoSize_in_NoForm
    have t_kt_NoSize_in_NoCounter := T.kt_NoSize_in_NoCounter
    have t_kt_NoSize_in_NoScheme := T.kt_NoSize_in_NoScheme
    have t_kt_NoSize_in_NoSize := T.kt_NoSize_in_NoSize
    have t_kt_NoSize_in_NoRing := T.kt_NoSize_in_NoRing
    have t_kt_NoSize_in_Outside := T.kt_NoSize_in_Outside
    have t_kt_NoSize_in_NoRun := T.kt_NoSize_in_NoRun
    have t_kt_NoSize_in_NoSet := T.kt_NoSize_in_NoSet
    have t_kt_NoSize_in_TooLong := T.kt_NoSize_in_TooLong
    have t_kt_NoSize_in_VE := T.kt_NoSize_in_VE
    have t_xm_NoSize := T.xm_NoSize
    have t_kt_Outside_in_NoForm := T.kt_Outside_in_NoForm
    have t_kt_Outside_in_NoCounter := T.kt_Outside_in_NoCounter
    have t_kt_Outside_in_NoScheme := T.kt_Outside_in_NoScheme
    have t_kt_Outside_in_NoSize := T.kt_Outside_in_NoSize
    have t_kt_Outside_in_NoRing := T.kt_Outside_in_NoRing
    have t_kt_Outside_in_Outside := T.kt_Outside_in_Outside
    have t_kt_Outside_in_NoRun := T.kt_Outside_in_NoRun
    have t_kt_Outside_in_NoSet := T.kt_Outside_in_NoSet
    have t_kt_Outside_in_TooLong := T.kt_Outside_in_TooLong
    have t_kt_Outside_in_VE := T.kt_Outside_in_VE
    have t_xm_Outside := T.xm_Outside
    have t_k_Slots := T.k_Slots
    rcases hy with ⟨i, rfl, hk⟩ | ⟨⟨t, ty, kt | ⟨kt, kb⟩⟩, hk⟩
    · skip
      refine ⟨_, (pss_one (ps_ret (pe_and (pe_callB (Rd.isi (K := K) rfl) (by rfl) T.n_isinstance (by decide +kernel) (pa_cons (pv 0) (pa_cons (pe_bltn (v := .ty "int") (u := .type "int") (by rfl) T.n_int (by decide +kernel) rfl) pa_nil))) (pe_one (pe_not (pe_callB (Rd.isi (K := K) rfl) (by rfl) T.n_isinstance (by decide +kernel) (pa_cons (pv 0) (pa_cons (pe_bltn (v := .ty "bool") (u := .type "bool") (by rfl) T.n_bool (by decide +kernel) rfl) pa_nil)))))))), ?_⟩
      try dsimp only [L2.cxOf, L2.Cx.nox, L2.Cx.wish]
      with_reducible refine Rd.ret (Rd.andV (Rd.cB (Rd.cons (Rd.var (by walk_at "vr") (Rd.cons (Rd.c (Rd.nil ?_)))))))
      refine ⟨_, _, _, _, _, rfl, (by walk_at "clsv"), (by walk_at "tyx"), (by walk_at "kit"), ?_⟩
      with_reducible refine Rd.bl (Rd.iteT (by first | with_unfolding_all rfl | walk_at "bT") (Rd.notV (Rd.cB (Rd.cons (Rd.var (by walk_at "vr") (Rd.cons (Rd.c (Rd.nil ?_))))))))
      refine ⟨_, _, _, _, _, rfl, (by walk_at "clsv"), (by walk_at "tyx"), (by walk_at "kit"), ?_⟩
      with_reducible refine Rd.bl ?_
      exact hk
    · skip
      refine ⟨_, (pss_one (ps_ret (pe_and (pe_callB (Rd.isi (K := K) rfl) (by rfl) T.n_isinstance (by decide +kernel) (pa_cons (pv 0) (pa_cons (pe_bltn (v := .ty "int") (u := .type "int") (by rfl) T.n_int (by decide +kernel) rfl) pa_nil))) (pe_one Rd.peN)))), ?_⟩
      try dsimp only [L2.cxOf, L2.Cx.nox, L2.Cx.wish]
      with_reducible refine Rd.ret (Rd.andV (Rd.cB (Rd.cons (Rd.var (by walk_at "vr") (Rd.cons (Rd.c (Rd.nil ?_)))))))
      refine ⟨_, _, _, _, _, rfl, (by walk_at "clsv"), (by walk_at "tyx"), (by walk_at "kit"), ?_⟩
      with_reducible refine Rd.bl (Rd.iteF (by walk_at "bF") ?_)
      exact hk
    · skip
      refine ⟨_, (pss_one (ps_ret (pe_and (pe_callB (Rd.isi (K := K) rfl) (by rfl) T.n_isinstance (by decide +kernel) (pa_cons (pv 0) (pa_cons (pe_bltn (v := .ty "int") (u := .type "int") (by rfl) T.n_int (by decide +kernel) rfl) pa_nil))) (pe_one (pe_not (pe_callB (Rd.isi (K := K) rfl) (by rfl) T.n_isinstance (by decide +kernel) (pa_cons (pv 0) (pa_cons (pe_bltn (v := .ty "bool") (u := .type "bool") (by rfl) T.n_bool (by decide +kernel) rfl) pa_nil)))))))), ?_⟩
      try dsimp only [L2.cxOf, L2.Cx.nox, L2.Cx.wish]
      with_reducible refine Rd.ret (Rd.andV (Rd.cB (Rd.cons (Rd.var (by walk_at "vr") (Rd.cons (Rd.c (Rd.nil ?_)))))))
      refine ⟨_, _, _, _, _, rfl, (by walk_at "clsv"), (by walk_at "tyx"), (by walk_at "kit"), ?_⟩
      with_reducible refine Rd.bl (Rd.iteT (by walk_at "bT") (Rd.notV (Rd.cB (Rd.cons (Rd.var (by walk_at "vr") (Rd.cons (Rd.c (Rd.nil ?_))))))))
      refine ⟨_, _, _, _, _, rfl, (by walk_at "clsv"), (by walk_at "tyx"), (by walk_at "kit"), ?_⟩
      with_reducible refine Rd.bl ?_
      exact hk
/-! is_whole_from -/
theorem sc_is_whole_from : FnScope ["thing", "low", "high"] ["thing", "low", "high"] (defScope s_is_whole_from) := ⟨rfl, rfl, rfl, by decide +kernel, rfl, by decide +kernel, by decide +kernel⟩
abbrev sp_is_whole_from (K : PySem.W.Frag) (A : Adr) : Sp := fun vs H Q _ => ∃ (y : V) (lo hi : Int), vs = [y, .int lo, .int hi] ∧ ((∃ i : Int, y = .int i ∧ lo ≤ i ∧ i ≤ hi ∧ Q (.bl true) H) ∨ (∃ i : Int, y = .int i ∧ i < lo ∧ Q (.bl false) H) ∨ (∃ i : Int, y = .int i ∧ lo ≤ i ∧ hi < i ∧ Q (.bl false) H) ∨ (Odd K H y ∧ Q (.bl false) H))
theorem ok_is_whole_from (T : Txt w K mg A) : FnOk P w K mg base CX0 2 A.f_is_whole_from A.d_is_whole_from ["thing", "low", "high"] (sp_is_whole_from K A) := by
  refine T.F_is_whole_from.ok sc_is_whole_from (fun vs H Q E h => ?_) (fun cdv Ar outer s H vs Q E hr h => ?_)
  · obtain ⟨y, lo, hi, rfl, hy⟩ := h
    rfl
  · obtain ⟨y, lo, hi, rfl, hy⟩ := h
    have hu := hu_of hr
    have t_kt_NoSize_in_NoForm := T.kt_NoSize_in_NoForm
    have t_kt_NoSize_in_NoCounter := T.kt_NoSize_in_NoCounter
    have t_kt_NoSize_in_NoScheme := T.kt_NoSize_in_NoScheme
    have t_kt_NoSize_in_NoSize := T.kt_NoSize_in_NoSize
    have t_kt_NoSize_in_NoRing := T.kt_NoSize_in_NoRing
    have t_kt_NoSize_in_Outside := T.kt_NoSize_in_Outside
    have t_kt_NoSize_in_NoRun := T.kt_NoSize_in_NoRun
    have t_kt_NoSize_in_NoSet := T.kt_NoSize_in_NoSet
    have t_kt_NoSize_in_TooLong := T.kt_NoSize_in_TooLong
    have t_kt_NoSize_in_VE := T.kt_NoSize_in_VE
    have t_xm_NoSize := T.xm_NoSize
    have t_kt_Outside_in_NoForm := T.kt_Outside_in_NoForm
    have t_kt_Outside_in_NoCounter := T.kt_Outside_in_NoCounter
    have t_kt_Outside_in_NoScheme := T.kt_Outside_in_NoScheme
    have t_kt_Outside_in_NoSize := T.kt_Outside_in_NoSize
    have t_kt_Outside_in_NoRing := T.kt_Outside_in_NoRing
    have t_kt_Outside_in_Outside := T.kt_Outside_in_Outside
    have t_kt_Outside_in_NoRun := T.kt_Outside_in_NoRun
    have t_kt_Outside_in_NoSet := T.kt_Outside_in_NoSet
    have t_kt_Outside_in_TooLong := T.kt_Outside_in_TooLong
    have t_kt_Outside_in_VE := T.kt_Outside_in_VE
    have t_xm_Outside := T.xm_Outside
    have t_k_Slots := T.k_Slots
    rcases hy with ⟨i, rfl, h1, h2, hk⟩ | ⟨i, rfl, h1, hk⟩ | ⟨i, rfl, h1, h2, hk⟩ | ⟨ho, hk⟩
    · skip
      refine ⟨_, (pss_one (ps_ret (pe_and (pe_call (ok_is_whole T) (hr.mono (by decide)) (by rfl) T.m_is_whole T.F_is_whole.kp T.b_is_whole .nil pass0 (pa_cons (pv 0) pa_nil)) (pe_one (pe_chain op_le op_le (pv 1) (pv 0) (pv 2)))))), ?_⟩
      try dsimp only [L2.cxOf, L2.Cx.nox, L2.Cx.wish]
      with_reducible refine Rd.ret (Rd.andV (Rd.call (Rd.cons (Rd.var (by walk_at "vr") (Rd.nil ?_)))))
      refine ⟨_, rfl, .inl ⟨_, rfl, ?_⟩⟩
      with_reducible refine Rd.bl (Rd.iteT (by walk_at "bT") (Rd.chain (Rd.var (by walk_at "vr") (Rd.var (by walk_at "vr") (Rd.i0 (Rd.bl (Rd.iteT (by walk_at "bT") (Rd.var (by walk_at "vr") (Rd.i0 ?_)))))))))
      rw [decide_eq_true h2]
      exact hk
    · skip
      refine ⟨_, (pss_one (ps_ret (pe_and (pe_call (ok_is_whole T) (hr.mono (by decide)) (by rfl) T.m_is_whole T.F_is_whole.kp T.b_is_whole .nil pass0 (pa_cons (pv 0) pa_nil)) (pe_one (pe_chain op_le op_le (pv 1) (pv 0) Rd.peN))))), ?_⟩
      try dsimp only [L2.cxOf, L2.Cx.nox, L2.Cx.wish]
      with_reducible refine Rd.ret (Rd.andV (Rd.call (Rd.cons (Rd.var (by walk_at "vr") (Rd.nil ?_)))))
      refine ⟨_, rfl, .inl ⟨_, rfl, ?_⟩⟩
      with_reducible refine Rd.bl (Rd.iteT (by walk_at "bT") (Rd.chain (Rd.var (by walk_at "vr") (Rd.var (by walk_at "vr") (Rd.i0 (Rd.bl (Rd.iteF (by walk_at "bF") ?_)))))))
      exact hk
    · skip
      refine ⟨_, (pss_one (ps_ret (pe_and (pe_call (ok_is_whole T) (hr.mono (by decide)) (by rfl) T.m_is_whole T.F_is_whole.kp T.b_is_whole .nil pass0 (pa_cons (pv 0) pa_nil)) (pe_one (pe_chain op_le op_le (pv 1) (pv 0) (pv 2)))))), ?_⟩
      try dsimp only [L2.cxOf, L2.Cx.nox, L2.Cx.wish]
      with_reducible refine Rd.ret (Rd.andV (Rd.call (Rd.cons (Rd.var (by walk_at "vr") (Rd.nil ?_)))))
      refine ⟨_, rfl, .inl ⟨_, rfl, ?_⟩⟩
      with_reducible refine Rd.bl (Rd.iteT (by walk_at "bT") (Rd.chain (Rd.var (by walk_at "vr") (Rd.var (by walk_at "vr") (Rd.i0 (Rd.bl (Rd.iteT (by walk_at "bT") (Rd.var (by walk_at "vr") (Rd.i0 ?_)))))))))
      rw [decide_eq_false (by omega)]
      exact hk
    · skip
      refine ⟨_, (pss_one (ps_ret (pe_and (pe_call (ok_is_whole T) (hr.mono (by decide)) (by rfl) T.m_is_whole T.F_is_whole.kp T.b_is_whole .nil pass0 (pa_cons (pv 0) pa_nil)) (pe_one Rd.peN)))), ?_⟩
      try dsimp only [L2.cxOf, L2.Cx.nox, L2.Cx.wish]
      with_reducible refine Rd.ret (Rd.andV (Rd.call (Rd.cons (Rd.var (by walk_at "vr") (Rd.nil ?_)))))
      refine ⟨_, rfl, .inr ⟨(by with_reducible assumption), ?_⟩⟩
      with_reducible refine Rd.bl (Rd.iteF (by walk_at "bF") ?_)
      exact hk
/-! Slots.__init__ -/
theorem sc_Slotsu__initu_ : FnScope ["self", "n", "_"] ["self", "n"] (defScope s_Slotsu__initu_) := ⟨rfl, rfl, rfl, by decide +kernel, rfl, by decide +kernel, by decide +kernel⟩
theorem st_Slotsu__initu_ {v0 v1 : V} : L2.start ["self", "n", "_"] [v0, v1] = [some v0, some v1, none] := rfl
abbrev sp_Slotsu__initu_ (K : PySem.W.Frag) (A : Adr) : Sp := fun vs H Q E => ∃ (p dx : Addr) (y : V), vs = [.ref p, y] ∧ H p = some (.ins A.c_Slots dx []) ∧ ((∃ n : Int, y = .int n ∧ 1 ≤ n ∧ n ≤ 10000 ∧ ∀ (l : Addr) H', Frm p H H' → H l = none → H' p = some (.ins A.c_Slots dx (fS l)) → H' l = some (.lst ((List.replicate n.toNat none).map Rd.ov)) → Q .non H') ∨ (BadZ K H y ∧ ∀ H1, Same H H1 → E (.ref A.c_NoSize) none H1))
theorem ok_Slotsu__initu_ (T : Txt w K mg A) : FnOk P w K mg base (L2.CX P w) 3 A.f_Slotsu__initu_ A.d_Slotsu__initu_ ["self", "n"] (sp_Slotsu__initu_ K A) := by
  refine T.F_Slotsu__initu_.okX sc_Slotsu__initu_ (fun vs H Q E h => ?_) (fun cdv Ar outer s H vs Q E hr h => ?_)
  · obtain ⟨p, dx, y, rfl, hp, hy⟩ := h
    rfl
  · obtain ⟨p, dx, y, rfl, hp, hy⟩ := h
    have hu := hu_of hr
    have t_kt_NoSize_in_NoForm := T.kt_NoSize_in_NoForm
    have t_kt_NoSize_in_NoCounter := T.kt_NoSize_in_NoCounter
    have t_kt_NoSize_in_NoScheme := T.kt_NoSize_in_NoScheme
    have t_kt_NoSize_in_NoSize := T.kt_NoSize_in_NoSize
    have t_kt_NoSize_in_NoRing := T.kt_NoSize_in_NoRing
    have t_kt_NoSize_in_Outside := T.kt_NoSize_in_Outside
    have t_kt_NoSize_in_NoRun := T.kt_NoSize_in_NoRun
    have t_kt_NoSize_in_NoSet := T.kt_NoSize_in_NoSet
    have t_kt_NoSize_in_TooLong := T.kt_NoSize_in_TooLong
    have t_kt_NoSize_in_VE := T.kt_NoSize_in_VE
    have t_xm_NoSize := T.xm_NoSize
    have t_kt_Outside_in_NoForm := T.kt_Outside_in_NoForm
    have t_kt_Outside_in_NoCounter := T.kt_Outside_in_NoCounter
    have t_kt_Outside_in_NoScheme := T.kt_Outside_in_NoScheme
    have t_kt_Outside_in_NoSize := T.kt_Outside_in_NoSize
    have t_kt_Outside_in_NoRing := T.kt_Outside_in_NoRing
    have t_kt_Outside_in_Outside := T.kt_Outside_in_Outside
    have t_kt_Outside_in_NoRun := T.kt_Outside_in_NoRun
    have t_kt_Outside_in_NoSet := T.kt_Outside_in_NoSet
    have t_kt_Outside_in_TooLong := T.kt_Outside_in_TooLong
    have t_kt_Outside_in_VE := T.kt_Outside_in_VE
    have t_xm_Outside := T.xm_Outside
    have t_k_Slots := T.k_Slots
    rcases hy with ⟨n, rfl, n1, n2, k⟩ | ⟨⟨n, rfl, n1⟩ | ⟨n, rfl, n1, n2⟩ | ho, k⟩
    · skip
      refine ⟨_, (pss_cons (ps_if (pt_not (pt_val (pe_call (ok_is_whole_from T) (hr.mono (by decide)) (by rfl) T.m_is_whole_from T.F_is_whole_from.kp T.b_is_whole_from .nil pass0 (pa_cons (pv 1) (pa_cons pe_int (pa_cons (pe_glob (v := .int (10000)) rfl T.m_MOST_SLOTS ⟨_, rfl⟩) pa_nil)))))) (pss_one ps_never) pss_nil)
      (pss_one (ps_fld (pv 0) (by exact (pe_lc (own := [("_", 2)]) (g := gName 2) rfl sc_Slotsu__initu_.nd (pi_range1 (by rfl) T.n_range (pa_cons (pv 1) pa_nil)) (blkOk_by (own := [("_", 2)]) (N := ["self", "n", "_"]) (sc := defScope s_Slotsu__initu_) (by decide +kernel)) (fun _ _ _ _ _ => (pg_name (i := 2) sc_Slotsu__initu_.nd rfl (Or.inl rfl))) (fun _ _ _ _ _ => pts_nil) (fun _ _ _ _ _ => pe_non))) rfl))), ?_⟩
      try dsimp only [L2.cxOf, L2.Cx.nox, L2.Cx.wish]
      try rw [st_Slotsu__initu_]
      with_reducible refine Rd.seq (Rd.ifS (Rd.not (Rd.tb (Rd.call (Rd.cons (Rd.var (by walk_at "vr") (Rd.cons (Rd.c (Rd.cons (Rd.c (Rd.nil ?_)))))))))))
      refine ⟨_, _, _, rfl, .inl ⟨_, rfl, (by walk_at "sc"), (by walk_at "sc"), ?_⟩⟩
      with_reducible refine Rd.bl (Rd.iteF (by walk_at "bF") (Rd.next (Rd.sfld (Rd.lc (Rd.rng1 (Rd.cons (Rd.var (by walk_at "vr") (Rd.nil (⟨_, rfl, (by walk_at "sc"), (by walk_at "sc"), ?_⟩)))))))))
      intro D0 nD0
      refine' lc_range (lo := 0) (fun i H' => Same H H' ∧ H' D0 = some (.lst ((List.replicate i none).map Rd.ov))) (⟨by walk_at "frm", L2.upd_same⟩) (fun i H' hi p => ?lct0_u7) (fun H' p => ?lcd0_u7)
      case lct0_u7 =>
        obtain ⟨S9, hD⟩ := p
        have al9 : ((List.replicate i none).map Rd.ov).length ≤ 10001 := by rw [List.length_map, List.length_replicate]; omega
        with_reducible refine Rd.name ?_
        refine ⟨rfl, ?_⟩
        refine Rd.yes (Rd.iteT rfl ?_)
        with_reducible refine Rd.c ?_
        refine ⟨_, (by walk_at "hp"), (by walk_at "sz"), ?_⟩
        refine ⟨by walk_at "frm", ?_⟩
        rw [List.replicate_succ', List.map_append]
        exact L2.upd_same
      obtain ⟨S9, hD9⟩ := p
      with_reducible refine Rd.var (by walk_at "vr") (⟨_, _, _, _, rfl, (by walk_at "hp"), T.k_Slots, T.n_Slots_laid, (by walk_at "sfl"), ?_⟩)
      (repeat rw [L2.upd_upd])
      rw [fS_put]
      have nDp : D0 ≠ p := ne_none' nD0 (by walk_at "hp")
      exact k _ _ (by walk_at "frm") (by walk_at "nn") L2.upd_same (by walk_at "hp")
    · skip
      refine ⟨_, (pss_cons (ps_if (pt_not (pt_val (pe_call (ok_is_whole_from T) (hr.mono (by decide)) (by rfl) T.m_is_whole_from T.F_is_whole_from.kp T.b_is_whole_from .nil pass0 (pa_cons (pv 1) (pa_cons pe_int (pa_cons (pe_glob (v := .int (10000)) rfl T.m_MOST_SLOTS ⟨_, rfl⟩) pa_nil)))))) (pss_one (ps_raise rfl (takes_of rfl rfl rfl rfl) (pmk_own PySem.F.excBase_ValueError T.x_NoSize T.m_NoSize T.kp_NoSize (raises_own T.sb_NoSize T.tc_NoSize) rfl))) pss_nil)
      (pss_one ps_never)), ?_⟩
      try dsimp only [L2.cxOf, L2.Cx.nox, L2.Cx.wish]
      try rw [st_Slotsu__initu_]
      with_reducible refine Rd.seq (Rd.ifS (Rd.not (Rd.tb (Rd.call (Rd.cons (Rd.var (by walk_at "vr") (Rd.cons (Rd.c (Rd.cons (Rd.c (Rd.nil ?_)))))))))))
      refine ⟨_, _, _, rfl, .inr (.inl ⟨_, rfl, (by walk_at "sc"), ?_⟩)⟩
      with_reducible refine Rd.bl (Rd.iteT (by walk_at "bT") ?_)
      exact k _ (Same.refl _)
    · skip
      refine ⟨_, (pss_cons (ps_if (pt_not (pt_val (pe_call (ok_is_whole_from T) (hr.mono (by decide)) (by rfl) T.m_is_whole_from T.F_is_whole_from.kp T.b_is_whole_from .nil pass0 (pa_cons (pv 1) (pa_cons pe_int (pa_cons (pe_glob (v := .int (10000)) rfl T.m_MOST_SLOTS ⟨_, rfl⟩) pa_nil)))))) (pss_one (ps_raise rfl (takes_of rfl rfl rfl rfl) (pmk_own PySem.F.excBase_ValueError T.x_NoSize T.m_NoSize T.kp_NoSize (raises_own T.sb_NoSize T.tc_NoSize) rfl))) pss_nil)
      (pss_one ps_never)), ?_⟩
      try dsimp only [L2.cxOf, L2.Cx.nox, L2.Cx.wish]
      try rw [st_Slotsu__initu_]
      with_reducible refine Rd.seq (Rd.ifS (Rd.not (Rd.tb (Rd.call (Rd.cons (Rd.var (by walk_at "vr") (Rd.cons (Rd.c (Rd.cons (Rd.c (Rd.nil ?_)))))))))))
      refine ⟨_, _, _, rfl, .inr (.inr (.inl ⟨_, rfl, (by walk_at "sc"), (by walk_at "sc"), ?_⟩))⟩
      with_reducible refine Rd.bl (Rd.iteT (by walk_at "bT") ?_)
      exact k _ (Same.refl _)
    · skip
      refine ⟨_, (pss_cons (ps_if (pt_not (pt_val (pe_call (ok_is_whole_from T) (hr.mono (by decide)) (by rfl) T.m_is_whole_from T.F_is_whole_from.kp T.b_is_whole_from .nil pass0 (pa_cons (pv 1) (pa_cons pe_int (pa_cons (pe_glob (v := .int (10000)) rfl T.m_MOST_SLOTS ⟨_, rfl⟩) pa_nil)))))) (pss_one (ps_raise rfl (takes_of rfl rfl rfl rfl) (pmk_own PySem.F.excBase_ValueError T.x_NoSize T.m_NoSize T.kp_NoSize (raises_own T.sb_NoSize T.tc_NoSize) rfl))) pss_nil)
      (pss_one ps_never)), ?_⟩
      try dsimp only [L2.cxOf, L2.Cx.nox, L2.Cx.wish]
      try rw [st_Slotsu__initu_]
      with_reducible refine Rd.seq (Rd.ifS (Rd.not (Rd.tb (Rd.call (Rd.cons (Rd.var (by walk_at "vr") (Rd.cons (Rd.c (Rd.cons (Rd.c (Rd.nil ?_)))))))))))
      refine ⟨_, _, _, rfl, .inr (.inr (.inr ⟨(by with_reducible assumption), ?_⟩))⟩
      with_reducible refine Rd.bl (Rd.iteT (by walk_at "bT") ?_)
      exact k _ (Same.refl _)
/-! Slots._check_slot -/
theorem sc_Slotsu_check_slot : FnScope ["self", "at"] ["self", "at"] (defScope s_Slotsu_check_slot) := ⟨rfl, rfl, rfl, by decide +kernel, rfl, by decide +kernel, by decide +kernel⟩
theorem st_Slotsu_check_slot {v0 v1 : V} : L2.start ["self", "at"] [v0, v1] = [some v0, some v1] := rfl
abbrev sp_Slotsu_check_slot (K : PySem.W.Frag) (A : Adr) : Sp := fun vs H Q E => ∃ (p dx l : Addr) (os : List (Option Int)) (y : V), vs = [.ref p, y] ∧ H p = some (.ins A.c_Slots dx (fS l)) ∧ H l = some (.lst (os.map Rd.ov)) ∧ ((∃ j : Int, y = .int j ∧ 0 ≤ j ∧ j < (os.length : Int) ∧ Q .non H) ∨ (BadS K H os.length y ∧ ∀ H1, Same H H1 → E (.ref A.c_Outside) none H1))
theorem ok_Slotsu_check_slot (T : Txt w K mg A) : FnOk P w K mg base (L2.CX P w) 3 A.f_Slotsu_check_slot A.d_Slotsu_check_slot ["self", "at"] (sp_Slotsu_check_slot K A) := by
  refine T.F_Slotsu_check_slot.okX sc_Slotsu_check_slot (fun vs H Q E h => ?_) (fun cdv Ar outer s H vs Q E hr h => ?_)
  · obtain ⟨p, dx, l, os, y, rfl, hp, hl, hy⟩ := h
    rfl
  · obtain ⟨p, dx, l, os, y, rfl, hp, hl, hy⟩ := h
    have hu := hu_of hr
    have t_kt_NoSize_in_NoForm := T.kt_NoSize_in_NoForm
    have t_kt_NoSize_in_NoCounter := T.kt_NoSize_in_NoCounter
    have t_kt_NoSize_in_NoScheme := T.kt_NoSize_in_NoScheme
    have t_kt_NoSize_in_NoSize := T.kt_NoSize_in_NoSize
    have t_kt_NoSize_in_NoRing := T.kt_NoSize_in_NoRing
    have t_kt_NoSize_in_Outside := T.kt_NoSize_in_Outside
    have t_kt_NoSize_in_NoRun := T.kt_NoSize_in_NoRun
    have t_kt_NoSize_in_NoSet := T.kt_NoSize_in_NoSet
    have t_kt_NoSize_in_TooLong := T.kt_NoSize_in_TooLong
    have t_kt_NoSize_in_VE := T.kt_NoSize_in_VE
    have t_xm_NoSize := T.xm_NoSize
    have t_kt_Outside_in_NoForm := T.kt_Outside_in_NoForm
    have t_kt_Outside_in_NoCounter := T.kt_Outside_in_NoCounter
    have t_kt_Outside_in_NoScheme := T.kt_Outside_in_NoScheme
    have t_kt_Outside_in_NoSize := T.kt_Outside_in_NoSize
    have t_kt_Outside_in_NoRing := T.kt_Outside_in_NoRing
    have t_kt_Outside_in_Outside := T.kt_Outside_in_Outside
    have t_kt_Outside_in_NoRun := T.kt_Outside_in_NoRun
    have t_kt_Outside_in_NoSet := T.kt_Outside_in_NoSet
    have t_kt_Outside_in_TooLong := T.kt_Outside_in_TooLong
    have t_kt_Outside_in_VE := T.kt_Outside_in_VE
    have t_xm_Outside := T.xm_Outside
    have t_k_Slots := T.k_Slots
    have lv9 : (os.map Rd.ov).length = os.length := List.length_map _
    rcases hy with ⟨j, rfl, j0, j1, k⟩ | ⟨⟨i, rfl, b0⟩ | ⟨i, rfl, b0, b1⟩ | ho, k⟩
    · skip
      refine ⟨_, (pss_one (ps_if (pt_not (pt_val (pe_call (ok_is_whole_from T) (hr.mono (by decide)) (by rfl) T.m_is_whole_from T.F_is_whole_from.kp T.b_is_whole_from .nil pass0 (pa_cons (pv 1) (pa_cons pe_int (pa_cons (pe_op op_sub (pe_callB call_len_seq (by rfl) T.n_len PySem.boot_len (pa_cons (pe_fld (pv 0) rfl) pa_nil)) pe_int) pa_nil)))))) (pss_one ps_never) pss_nil)), ?_⟩
      try dsimp only [L2.cxOf, L2.Cx.nox, L2.Cx.wish]
      try rw [st_Slotsu_check_slot]
      with_reducible refine Rd.ifS (Rd.not (Rd.tb (Rd.call (Rd.cons (Rd.var (by walk_at "vr") (Rd.cons (Rd.c (Rd.cons (Rd.op (Rd.cB (Rd.cons ?_)))))))))))
      with_reducible refine Rd.fld (Rd.var (by walk_at "vr") (⟨_, _, _, _, _, rfl, (by walk_at "hp"), T.k_Slots, T.n_Slots_laid, (by walk_at "lk"), (Rd.nil (⟨_, _, rfl, (by walk_at "hpq"), (Rd.c (Rd.i0 (Rd.nil ?_)))⟩))⟩))
      refine ⟨_, _, _, rfl, .inl ⟨_, rfl, (by walk_at "sc"), (by walk_at "sc"), ?_⟩⟩
      with_reducible refine Rd.bl (Rd.iteF (by walk_at "bF") (Rd.next ?_))
      exact k
    · skip
      refine ⟨_, (pss_one (ps_if (pt_not (pt_val (pe_call (ok_is_whole_from T) (hr.mono (by decide)) (by rfl) T.m_is_whole_from T.F_is_whole_from.kp T.b_is_whole_from .nil pass0 (pa_cons (pv 1) (pa_cons pe_int (pa_cons (pe_op op_sub (pe_callB call_len_seq (by rfl) T.n_len PySem.boot_len (pa_cons (pe_fld (pv 0) rfl) pa_nil)) pe_int) pa_nil)))))) (pss_one (ps_raise rfl (takes_of rfl rfl rfl rfl) (pmk_own PySem.F.excBase_ValueError T.x_Outside T.m_Outside T.kp_Outside (raises_own T.sb_Outside T.tc_Outside) rfl))) pss_nil)), ?_⟩
      try dsimp only [L2.cxOf, L2.Cx.nox, L2.Cx.wish]
      try rw [st_Slotsu_check_slot]
      with_reducible refine Rd.ifS (Rd.not (Rd.tb (Rd.call (Rd.cons (Rd.var (by walk_at "vr") (Rd.cons (Rd.c (Rd.cons (Rd.op (Rd.cB (Rd.cons ?_)))))))))))
      with_reducible refine Rd.fld (Rd.var (by walk_at "vr") (⟨_, _, _, _, _, rfl, (by walk_at "hp"), T.k_Slots, T.n_Slots_laid, (by walk_at "lk"), (Rd.nil (⟨_, _, rfl, (by walk_at "hpq"), (Rd.c (Rd.i0 (Rd.nil ?_)))⟩))⟩))
      refine ⟨_, _, _, rfl, .inr (.inl ⟨_, rfl, (by walk_at "sc"), ?_⟩)⟩
      with_reducible refine Rd.bl (Rd.iteT (by walk_at "bT") ?_)
      exact k _ (Same.refl _)
    · skip
      refine ⟨_, (pss_one (ps_if (pt_not (pt_val (pe_call (ok_is_whole_from T) (hr.mono (by decide)) (by rfl) T.m_is_whole_from T.F_is_whole_from.kp T.b_is_whole_from .nil pass0 (pa_cons (pv 1) (pa_cons pe_int (pa_cons (pe_op op_sub (pe_callB call_len_seq (by rfl) T.n_len PySem.boot_len (pa_cons (pe_fld (pv 0) rfl) pa_nil)) pe_int) pa_nil)))))) (pss_one (ps_raise rfl (takes_of rfl rfl rfl rfl) (pmk_own PySem.F.excBase_ValueError T.x_Outside T.m_Outside T.kp_Outside (raises_own T.sb_Outside T.tc_Outside) rfl))) pss_nil)), ?_⟩
      try dsimp only [L2.cxOf, L2.Cx.nox, L2.Cx.wish]
      try rw [st_Slotsu_check_slot]
      with_reducible refine Rd.ifS (Rd.not (Rd.tb (Rd.call (Rd.cons (Rd.var (by walk_at "vr") (Rd.cons (Rd.c (Rd.cons (Rd.op (Rd.cB (Rd.cons ?_)))))))))))
      with_reducible refine Rd.fld (Rd.var (by walk_at "vr") (⟨_, _, _, _, _, rfl, (by walk_at "hp"), T.k_Slots, T.n_Slots_laid, (by walk_at "lk"), (Rd.nil (⟨_, _, rfl, (by walk_at "hpq"), (Rd.c (Rd.i0 (Rd.nil ?_)))⟩))⟩))
      refine ⟨_, _, _, rfl, .inr (.inr (.inl ⟨_, rfl, (by walk_at "sc"), (by walk_at "sc"), ?_⟩))⟩
      with_reducible refine Rd.bl (Rd.iteT (by walk_at "bT") ?_)
      exact k _ (Same.refl _)
    · skip
      refine ⟨_, (pss_one (ps_if (pt_not (pt_val (pe_call (ok_is_whole_from T) (hr.mono (by decide)) (by rfl) T.m_is_whole_from T.F_is_whole_from.kp T.b_is_whole_from .nil pass0 (pa_cons (pv 1) (pa_cons pe_int (pa_cons (pe_op op_sub (pe_callB call_len_seq (by rfl) T.n_len PySem.boot_len (pa_cons (pe_fld (pv 0) rfl) pa_nil)) pe_int) pa_nil)))))) (pss_one (ps_raise rfl (takes_of rfl rfl rfl rfl) (pmk_own PySem.F.excBase_ValueError T.x_Outside T.m_Outside T.kp_Outside (raises_own T.sb_Outside T.tc_Outside) rfl))) pss_nil)), ?_⟩
      try dsimp only [L2.cxOf, L2.Cx.nox, L2.Cx.wish]
      try rw [st_Slotsu_check_slot]
      with_reducible refine Rd.ifS (Rd.not (Rd.tb (Rd.call (Rd.cons (Rd.var (by walk_at "vr") (Rd.cons (Rd.c (Rd.cons (Rd.op (Rd.cB (Rd.cons ?_)))))))))))
      with_reducible refine Rd.fld (Rd.var (by walk_at "vr") (⟨_, _, _, _, _, rfl, (by walk_at "hp"), T.k_Slots, T.n_Slots_laid, (by walk_at "lk"), (Rd.nil (⟨_, _, rfl, (by walk_at "hpq"), (Rd.c (Rd.i0 (Rd.nil ?_)))⟩))⟩))
      refine ⟨_, _, _, rfl, .inr (.inr (.inr ⟨(by with_reducible assumption), ?_⟩))⟩
      with_reducible refine Rd.bl (Rd.iteT (by walk_at "bT") ?_)
      exact k _ (Same.refl _)
/-! Slots.__getitem__ -/
theorem sc_Slotsu__getitemu_ : FnScope ["self", "at"] ["self", "at"] (defScope s_Slotsu__getitemu_) := ⟨rfl, rfl, rfl, by decide +kernel, rfl, by decide +kernel, by decide +kernel⟩
theorem st_Slotsu__getitemu_ {v0 v1 : V} : L2.start ["self", "at"] [v0, v1] = [some v0, some v1] := rfl
abbrev sp_Slotsu__getitemu_ (K : PySem.W.Frag) (A : Adr) : Sp := fun vs H Q E => ∃ (p dx l : Addr) (os : List (Option Int)) (y : V), vs = [.ref p, y] ∧ H p = some (.ins A.c_Slots dx (fS l)) ∧ H l = some (.lst (os.map Rd.ov)) ∧ ((∃ j : Int, y = .int j ∧ 0 ≤ j ∧ j < (os.length : Int) ∧ Q (Rd.ov (rd os j)) H) ∨ (BadS K H os.length y ∧ ∀ H1, Same H H1 → E (.ref A.c_Outside) none H1))
theorem ok_Slotsu__getitemu_ (T : Txt w K mg A) : FnOk P w K mg base (L2.CX P w) 4 A.f_Slotsu__getitemu_ A.d_Slotsu__getitemu_ ["self", "at"] (sp_Slotsu__getitemu_ K A) := by
  refine T.F_Slotsu__getitemu_.okX sc_Slotsu__getitemu_ (fun vs H Q E h => ?_) (fun cdv Ar outer s H vs Q E hr h => ?_)
  · obtain ⟨p, dx, l, os, y, rfl, hp, hl, hy⟩ := h
    rfl
  · obtain ⟨p, dx, l, os, y, rfl, hp, hl, hy⟩ := h
    have hu := hu_of hr
    have t_kt_NoSize_in_NoForm := T.kt_NoSize_in_NoForm
    have t_kt_NoSize_in_NoCounter := T.kt_NoSize_in_NoCounter
    have t_kt_NoSize_in_NoScheme := T.kt_NoSize_in_NoScheme
    have t_kt_NoSize_in_NoSize := T.kt_NoSize_in_NoSize
    have t_kt_NoSize_in_NoRing := T.kt_NoSize_in_NoRing
    have t_kt_NoSize_in_Outside := T.kt_NoSize_in_Outside
    have t_kt_NoSize_in_NoRun := T.kt_NoSize_in_NoRun
    have t_kt_NoSize_in_NoSet := T.kt_NoSize_in_NoSet
    have t_kt_NoSize_in_TooLong := T.kt_NoSize_in_TooLong
    have t_kt_NoSize_in_VE := T.kt_NoSize_in_VE
    have t_xm_NoSize := T.xm_NoSize
    have t_kt_Outside_in_NoForm := T.kt_Outside_in_NoForm
    have t_kt_Outside_in_NoCounter := T.kt_Outside_in_NoCounter
    have t_kt_Outside_in_NoScheme := T.kt_Outside_in_NoScheme
    have t_kt_Outside_in_NoSize := T.kt_Outside_in_NoSize
    have t_kt_Outside_in_NoRing := T.kt_Outside_in_NoRing
    have t_kt_Outside_in_Outside := T.kt_Outside_in_Outside
    have t_kt_Outside_in_NoRun := T.kt_Outside_in_NoRun
    have t_kt_Outside_in_NoSet := T.kt_Outside_in_NoSet
    have t_kt_Outside_in_TooLong := T.kt_Outside_in_TooLong
    have t_kt_Outside_in_VE := T.kt_Outside_in_VE
    have t_xm_Outside := T.xm_Outside
    have t_k_Slots := T.k_Slots
    have lv9 : (os.map Rd.ov).length = os.length := List.length_map _
    rcases hy with ⟨j, rfl, j0, j1, k⟩ | ⟨hb, k⟩
    · skip
      refine ⟨_, (pss_cons (ps_expr (pe_meth (pv 0) T.k_Slots T.M_Slotsu_check_slot (ok_Slotsu_check_slot T) (hr.mono (by decide)) T.b_Slotsu_check_slot .nil (passes_call (takes_of rfl rfl rfl rfl) fun _ _ _ _ h => h) (pa_cons (pv 1) pa_nil)))
      (pss_one (ps_ret (pe_ix (Rd.ixLK rfl) (pe_fld (pv 0) rfl) (pv 1) (fun _ _ => rfl))))), ?_⟩
      try dsimp only [L2.cxOf, L2.Cx.nox, L2.Cx.wish]
      try rw [st_Slotsu__getitemu_]
      with_reducible refine Rd.seq (Rd.drop (Rd.meth (Rd.var (by walk_at "vr") (⟨_, _, _, rfl, (by walk_at "hp"), (by walk_at "lk"), (Rd.cons (Rd.var (by walk_at "vr") (Rd.nil ?_)))⟩))))
      refine ⟨_, _, _, _, _, rfl, (by walk_at "hp"), (by walk_at "hp"), .inl ⟨_, rfl, (by omega), (by omega), ?_⟩⟩
      with_reducible refine Rd.ret (Rd.op (Rd.fld (Rd.var (by walk_at "vr") (⟨_, _, _, _, _, rfl, (by walk_at "hp"), T.k_Slots, T.n_Slots_laid, (by walk_at "lk"), (Rd.var (by walk_at "vr") ?_)⟩))))
      refine Rd.ixL (by walk_at "hpl") (rd_at j0 j1) ?_
      exact k
    · skip
      refine ⟨_, (pss_cons (ps_expr (pe_meth (pv 0) T.k_Slots T.M_Slotsu_check_slot (ok_Slotsu_check_slot T) (hr.mono (by decide)) T.b_Slotsu_check_slot .nil (passes_call (takes_of rfl rfl rfl rfl) fun _ _ _ _ h => h) (pa_cons (pv 1) pa_nil)))
      (pss_one ps_never)), ?_⟩
      try dsimp only [L2.cxOf, L2.Cx.nox, L2.Cx.wish]
      try rw [st_Slotsu__getitemu_]
      with_reducible refine Rd.seq (Rd.drop (Rd.meth (Rd.var (by walk_at "vr") (⟨_, _, _, rfl, (by walk_at "hp"), (by walk_at "lk"), (Rd.cons (Rd.var (by walk_at "vr") (Rd.nil ?_)))⟩))))
      refine ⟨_, _, _, _, _, rfl, (by walk_at "hp"), (by walk_at "hp"), .inr ⟨hb, fun H1 S1 => k _ (by walk_at "frm")⟩⟩
/-! Slots.__setitem__ -/
theorem sc_Slotsu__setitemu_ : FnScope ["self", "at", "worth"] ["self", "at", "worth"] (defScope s_Slotsu__setitemu_) := ⟨rfl, rfl, rfl, by decide +kernel, rfl, by decide +kernel, by decide +kernel⟩
theorem st_Slotsu__setitemu_ {v0 v1 v2 : V} : L2.start ["self", "at", "worth"] [v0, v1, v2] = [some v0, some v1, some v2] := rfl
abbrev sp_Slotsu__setitemu_ (K : PySem.W.Frag) (A : Adr) : Sp := fun vs H Q E => ∃ (p dx l : Addr) (os : List (Option Int)) (y : V) (i : Int), vs = [.ref p, y, .int i] ∧ H p = some (.ins A.c_Slots dx (fS l)) ∧ H l = some (.lst (os.map Rd.ov)) ∧ ((∃ j : Int, y = .int j ∧ 0 ≤ j ∧ j < (os.length : Int) ∧ Q .non (upd H l (.lst ((os.set j.toNat (some i)).map Rd.ov)))) ∨ (BadS K H os.length y ∧ ∀ H1, Same H H1 → E (.ref A.c_Outside) none H1))
theorem ok_Slotsu__setitemu_ (T : Txt w K mg A) : FnOk P w K mg base (L2.CX P w) 4 A.f_Slotsu__setitemu_ A.d_Slotsu__setitemu_ ["self", "at", "worth"] (sp_Slotsu__setitemu_ K A) := by
  refine T.F_Slotsu__setitemu_.okX sc_Slotsu__setitemu_ (fun vs H Q E h => ?_) (fun cdv Ar outer s H vs Q E hr h => ?_)
  · obtain ⟨p, dx, l, os, y, i, rfl, hp, hl, hy⟩ := h
    rfl
  · obtain ⟨p, dx, l, os, y, i, rfl, hp, hl, hy⟩ := h
    have hu := hu_of hr
    have t_kt_NoSize_in_NoForm := T.kt_NoSize_in_NoForm
    have t_kt_NoSize_in_NoCounter := T.kt_NoSize_in_NoCounter
    have t_kt_NoSize_in_NoScheme := T.kt_NoSize_in_NoScheme
    have t_kt_NoSize_in_NoSize := T.kt_NoSize_in_NoSize
    have t_kt_NoSize_in_NoRing := T.kt_NoSize_in_NoRing
    have t_kt_NoSize_in_Outside := T.kt_NoSize_in_Outside
    have t_kt_NoSize_in_NoRun := T.kt_NoSize_in_NoRun
    have t_kt_NoSize_in_NoSet := T.kt_NoSize_in_NoSet
    have t_kt_NoSize_in_TooLong := T.kt_NoSize_in_TooLong
    have t_kt_NoSize_in_VE := T.kt_NoSize_in_VE
    have t_xm_NoSize := T.xm_NoSize
    have t_kt_Outside_in_NoForm := T.kt_Outside_in_NoForm
    have t_kt_Outside_in_NoCounter := T.kt_Outside_in_NoCounter
    have t_kt_Outside_in_NoScheme := T.kt_Outside_in_NoScheme
    have t_kt_Outside_in_NoSize := T.kt_Outside_in_NoSize
    have t_kt_Outside_in_NoRing := T.kt_Outside_in_NoRing
    have t_kt_Outside_in_Outside := T.kt_Outside_in_Outside
    have t_kt_Outside_in_NoRun := T.kt_Outside_in_NoRun
    have t_kt_Outside_in_NoSet := T.kt_Outside_in_NoSet
    have t_kt_Outside_in_TooLong := T.kt_Outside_in_TooLong
    have t_kt_Outside_in_VE := T.kt_Outside_in_VE
    have t_xm_Outside := T.xm_Outside
    have t_k_Slots := T.k_Slots
    have lv9 : (os.map Rd.ov).length = os.length := List.length_map _
    rcases hy with ⟨j, rfl, j0, j1, k⟩ | ⟨hb, k⟩
    · skip
      refine ⟨_, (pss_cons (ps_expr (pe_meth (pv 0) T.k_Slots T.M_Slotsu_check_slot (ok_Slotsu_check_slot T) (hr.mono (by decide)) T.b_Slotsu_check_slot .nil (passes_call (takes_of rfl rfl rfl rfl) fun _ _ _ _ h => h) (pa_cons (pv 1) pa_nil)))
      (pss_one (ps_asg (pv 2) (pg_sub (pe_fld (pv 0) rfl) (pv 1) set_list)))), ?_⟩
      try dsimp only [L2.cxOf, L2.Cx.nox, L2.Cx.wish]
      try rw [st_Slotsu__setitemu_]
      with_reducible refine Rd.seq (Rd.drop (Rd.meth (Rd.var (by walk_at "vr") (⟨_, _, _, rfl, (by walk_at "hp"), (by walk_at "lk"), (Rd.cons (Rd.var (by walk_at "vr") (Rd.nil ?_)))⟩))))
      refine ⟨_, _, _, _, _, rfl, (by walk_at "hp"), (by walk_at "hp"), .inl ⟨_, rfl, (by omega), (by omega), ?_⟩⟩
      with_reducible refine Rd.asg (Rd.var (by walk_at "vr") (Rd.sub (Rd.fld (Rd.var (by walk_at "vr") (⟨_, _, _, _, _, rfl, (by walk_at "hp"), T.k_Slots, T.n_Slots_laid, (by walk_at "lk"), (Rd.var (by walk_at "vr") ?_)⟩)))))
      refine Rd.setL (by walk_at "hp") (ixN_of j0 (by omega)) ?_
      try dsimp only [Int.reduceToNat, List.set]
      rw [List.map_set] at k
      exact k
    · skip
      refine ⟨_, (pss_cons (ps_expr (pe_meth (pv 0) T.k_Slots T.M_Slotsu_check_slot (ok_Slotsu_check_slot T) (hr.mono (by decide)) T.b_Slotsu_check_slot .nil (passes_call (takes_of rfl rfl rfl rfl) fun _ _ _ _ h => h) (pa_cons (pv 1) pa_nil)))
      (pss_one ps_never)), ?_⟩
      try dsimp only [L2.cxOf, L2.Cx.nox, L2.Cx.wish]
      try rw [st_Slotsu__setitemu_]
      with_reducible refine Rd.seq (Rd.drop (Rd.meth (Rd.var (by walk_at "vr") (⟨_, _, _, rfl, (by walk_at "hp"), (by walk_at "lk"), (Rd.cons (Rd.var (by walk_at "vr") (Rd.nil ?_)))⟩))))
      refine ⟨_, _, _, _, _, rfl, (by walk_at "hp"), (by walk_at "hp"), .inr ⟨hb, fun H1 S1 => k _ (by walk_at "frm")⟩⟩
/-! Slots.__len__ -/
theorem sc_Slotsu__lenu_ : FnScope ["self"] ["self"] (defScope s_Slotsu__lenu_) := ⟨rfl, rfl, rfl, by decide +kernel, rfl, by decide +kernel, by decide +kernel⟩
theorem st_Slotsu__lenu_ {v0 : V} : L2.start ["self"] [v0] = [some v0] := rfl
abbrev sp_Slotsu__lenu_ (K : PySem.W.Frag) (A : Adr) : Sp := fun vs H Q _ => ∃ (p dx l : Addr) (os : List (Option Int)), vs = [.ref p] ∧ H p = some (.ins A.c_Slots dx (fS l)) ∧ H l = some (.lst (os.map Rd.ov)) ∧ os.length ≤ 10000 ∧ Q (.int os.length) H
theorem ok_Slotsu__lenu_ (T : Txt w K mg A) : FnOk P w K mg base CX0 1 A.f_Slotsu__lenu_ A.d_Slotsu__lenu_ ["self"] (sp_Slotsu__lenu_ K A) := by
  refine T.F_Slotsu__lenu_.ok sc_Slotsu__lenu_ (fun vs H Q E h => ?_) (fun cdv Ar outer s H vs Q E hr h => ?_)
  · obtain ⟨p, dx, l, os, rfl, hp, hl, b0, k⟩ := h
    rfl
  · obtain ⟨p, dx, l, os, rfl, hp, hl, b0, k⟩ := h
    have hu := hu_of hr
    have t_kt_NoSize_in_NoForm := T.kt_NoSize_in_NoForm
    have t_kt_NoSize_in_NoCounter := T.kt_NoSize_in_NoCounter
    have t_kt_NoSize_in_NoScheme := T.kt_NoSize_in_NoScheme
    have t_kt_NoSize_in_NoSize := T.kt_NoSize_in_NoSize
    have t_kt_NoSize_in_NoRing := T.kt_NoSize_in_NoRing
    have t_kt_NoSize_in_Outside := T.kt_NoSize_in_Outside
    have t_kt_NoSize_in_NoRun := T.kt_NoSize_in_NoRun
    have t_kt_NoSize_in_NoSet := T.kt_NoSize_in_NoSet
    have t_kt_NoSize_in_TooLong := T.kt_NoSize_in_TooLong
    have t_kt_NoSize_in_VE := T.kt_NoSize_in_VE
    have t_xm_NoSize := T.xm_NoSize
    have t_kt_Outside_in_NoForm := T.kt_Outside_in_NoForm
    have t_kt_Outside_in_NoCounter := T.kt_Outside_in_NoCounter
    have t_kt_Outside_in_NoScheme := T.kt_Outside_in_NoScheme
    have t_kt_Outside_in_NoSize := T.kt_Outside_in_NoSize
    have t_kt_Outside_in_NoRing := T.kt_Outside_in_NoRing
    have t_kt_Outside_in_Outside := T.kt_Outside_in_Outside
    have t_kt_Outside_in_NoRun := T.kt_Outside_in_NoRun
    have t_kt_Outside_in_NoSet := T.kt_Outside_in_NoSet
    have t_kt_Outside_in_TooLong := T.kt_Outside_in_TooLong
    have t_kt_Outside_in_VE := T.kt_Outside_in_VE
    have t_xm_Outside := T.xm_Outside
    have t_k_Slots := T.k_Slots
    refine ⟨_, (pss_one (ps_ret (pe_callB call_len_seq (by rfl) T.n_len PySem.boot_len (pa_cons (pe_fld (pv 0) rfl) pa_nil)))), ?_⟩
    try dsimp only [L2.cxOf, L2.Cx.nox, L2.Cx.wish]
    try rw [st_Slotsu__lenu_]
    with_reducible refine Rd.ret (Rd.cB (Rd.cons (Rd.fld (Rd.var (by walk_at "vr") (⟨_, _, _, _, _, rfl, (by walk_at "hp"), T.k_Slots, T.n_Slots_laid, (by walk_at "lk"), (Rd.nil (⟨_, _, rfl, (by walk_at "hpq"), ?_⟩))⟩)))))
    rw [List.length_map]
    exact k
/-! _law_source -/
theorem sc_l_source : FnScope ["_law_script", "_law_turn", "_law_cell", "_law_number", "_law_seed"] ["_law_script", "_law_turn"] (defScope s_l_source) := ⟨rfl, rfl, rfl, by decide +kernel, rfl, by decide +kernel, by decide +kernel⟩
abbrev sp_l_source (K : PySem.W.Frag) (A : Adr) : Sp := spSource K
theorem ok_l_source (T : Txt w K mg A) : FnOk P w K mg base CX0 1 A.f_l_source A.d_l_source ["_law_script", "_law_turn"] (sp_l_source K A) := by
  refine T.F_l_source.ok sc_l_source (fun vs H Q E h => ?_) (fun cdv Ar outer s H vs Q E hr h => ?_)
  · obtain ⟨a, ns, t, rfl, ha, ht, ht2, k⟩ := h
    rfl
  · obtain ⟨a, ns, t, rfl, ha, ht, ht2, k⟩ := h
    have hu := hu_of hr
    have t_kt_NoSize_in_NoForm := T.kt_NoSize_in_NoForm
    have t_kt_NoSize_in_NoCounter := T.kt_NoSize_in_NoCounter
    have t_kt_NoSize_in_NoScheme := T.kt_NoSize_in_NoScheme
    have t_kt_NoSize_in_NoSize := T.kt_NoSize_in_NoSize
    have t_kt_NoSize_in_NoRing := T.kt_NoSize_in_NoRing
    have t_kt_NoSize_in_Outside := T.kt_NoSize_in_Outside
    have t_kt_NoSize_in_NoRun := T.kt_NoSize_in_NoRun
    have t_kt_NoSize_in_NoSet := T.kt_NoSize_in_NoSet
    have t_kt_NoSize_in_TooLong := T.kt_NoSize_in_TooLong
    have t_kt_NoSize_in_VE := T.kt_NoSize_in_VE
    have t_xm_NoSize := T.xm_NoSize
    have t_kt_Outside_in_NoForm := T.kt_Outside_in_NoForm
    have t_kt_Outside_in_NoCounter := T.kt_Outside_in_NoCounter
    have t_kt_Outside_in_NoScheme := T.kt_Outside_in_NoScheme
    have t_kt_Outside_in_NoSize := T.kt_Outside_in_NoSize
    have t_kt_Outside_in_NoRing := T.kt_Outside_in_NoRing
    have t_kt_Outside_in_Outside := T.kt_Outside_in_Outside
    have t_kt_Outside_in_NoRun := T.kt_Outside_in_NoRun
    have t_kt_Outside_in_NoSet := T.kt_Outside_in_NoSet
    have t_kt_Outside_in_TooLong := T.kt_Outside_in_TooLong
    have t_kt_Outside_in_VE := T.kt_Outside_in_VE
    have t_xm_Outside := T.xm_Outside
    have t_k_Slots := T.k_Slots
    refine ⟨_, (pss_cons (ps_set (i := 2) sc_l_source.nd rfl (Or.inl rfl) pe_int)
      (pss_cons (ps_if (pt_cmpR op_lt (pv 1) (pe_callB call_len_seq (by rfl) T.n_len PySem.boot_len (pa_cons (pv 0) pa_nil)) (nomark _)) (pss_one (ps_set (i := 2) sc_l_source.nd rfl (Or.inl rfl) (pe_ix (Rd.ixLK rfl) (pv 0) (pv 1) (fun _ _ => rfl)))) pss_nil)
      (pss_cons (ps_set (i := 3) sc_l_source.nd rfl (Or.inl rfl) (pe_callB call_abs (by rfl) T.n_abs (by decide +kernel) (pa_cons (pv 2) pa_nil))) (pss_cons (ps_set (i := 4) sc_l_source.nd rfl (Or.inl rfl) (pe_op op_mod (pe_callTy call_int1 (by rfl) T.n_int (by decide +kernel) (pa_cons (pe_op op_add (pe_op op_add (pe_op op_mulW (pe_op op_mod (pe_callTy call_int1 (by rfl) T.n_int (by decide +kernel) (pa_cons (pv 3) pa_nil)) pe_int) pe_int) (pe_op op_mulW pe_int (pv 1))) pe_int) pa_nil)) pe_int)) (pss_cons (ps_if (pt_cmpR op_lt (pv 3) (pe_op op_pow pe_int pe_int) (nomark _)) (pss_one (ps_set (i := 3) sc_l_source.nd rfl (Or.inl rfl) pe_int)) pss_nil) (pss_one (ps_ret (pe_lst (pa_cons (pv 3) (pa_cons (pv 4) pa_nil)))))))))), ?_⟩
    try dsimp only [L2.cxOf, L2.Cx.nox, L2.Cx.wish]
    with_reducible refine Rd.seq (Rd.asg (Rd.c (Rd.name (Rd.seq (Rd.ifS (Rd.test (Rd.op (Rd.var (by walk_at "vr") (Rd.cB (Rd.cons (Rd.var (by walk_at "vr") ?_)))))))))))
    with_reducible refine Rd.nil (⟨_, _, rfl, (by walk_at "hpq"), (Rd.i0 (Rd.bl ?_))⟩)
    refine Rd.ite (fun h0 => ?_) (fun h0 => ?_)
    · try simp only [decide_eq_true_eq, Bool.not_eq_true', decide_eq_false_iff_not, Bool.not_eq_true, Bool.not_eq_eq_eq_not, Bool.not_true, Bool.not_false] at h0
      with_reducible refine Rd.asg (Rd.op (Rd.var (by walk_at "vr") (Rd.var (by walk_at "vr") ?_)))
      obtain ⟨z, hz⟩ := atI_map ht (by simpa using h0)
      refine Rd.ixL (by walk_at "hpl") hz ?_
      with_reducible refine Rd.name (Rd.seq (Rd.asg (Rd.cB (Rd.cons (Rd.var (by walk_at "vr") (Rd.nil (⟨_, rfl, (Rd.name (Rd.seq (Rd.asg (Rd.op ?_))))⟩)))))))
      with_reducible refine Rd.cB (Rd.cons (Rd.op (Rd.op (Rd.op (Rd.op (Rd.cB (Rd.cons (Rd.var (by walk_at "vr") (Rd.nil ((.inl ⟨_, rfl, (Rd.c ?_)⟩)))))))))))
      with_reducible refine Rd.iC (by walk_at "sc") (Rd.c (Rd.iC (by walk_at "scm") (Rd.op (Rd.c (Rd.var (by walk_at "vr") (Rd.iC (by walk_at "scm") (Rd.i0 (Rd.c (Rd.i0 (Rd.nil ((.inl ⟨_, rfl, ?_⟩))))))))))))
      with_reducible refine Rd.c (Rd.iC (by walk_at "sc") (Rd.name (Rd.seq (Rd.ifS (Rd.test (Rd.op (Rd.var (by walk_at "vr") (Rd.op (Rd.c (Rd.c (Rd.iC (by walk_at "scp") ?_)))))))))))
      with_reducible refine Rd.i0 (Rd.bl ?_)
      refine Rd.ite (fun h1 => ?_) (fun h1 => ?_)
      · try simp only [decide_eq_true_eq, Bool.not_eq_true', decide_eq_false_iff_not, Bool.not_eq_true, Bool.not_eq_eq_eq_not, Bool.not_true, Bool.not_false] at h1
        with_reducible refine Rd.asg (Rd.c (Rd.name (Rd.ret (Rd.lst (Rd.cons (Rd.var (by walk_at "vr") (Rd.cons (Rd.var (by walk_at "vr") (Rd.nil (Rd.laid (by walk_at "ll") ?_))))))))))
        intro p0 np0
        exact k _ _ np0 ⟨_, _, rfl, (by walk_at "sc"), (by walk_at "sc"), (by walk_at "sc")⟩
      · try simp only [decide_eq_true_eq, Bool.not_eq_true', decide_eq_false_iff_not, Bool.not_eq_true, Bool.not_eq_eq_eq_not, Bool.not_true, Bool.not_false, Int.not_lt, Int.not_le, Decidable.not_not] at h1
        with_reducible refine Rd.next (Rd.ret (Rd.lst (Rd.cons (Rd.var (by walk_at "vr") (Rd.cons (Rd.var (by walk_at "vr") (Rd.nil (Rd.laid (by walk_at "ll") ?_))))))))
        intro p0 np0
        exact k _ _ np0 ⟨_, _, rfl, (by walk_at "sc"), (by walk_at "sc"), (by walk_at "sc")⟩
    · try simp only [decide_eq_true_eq, Bool.not_eq_true', decide_eq_false_iff_not, Bool.not_eq_true, Bool.not_eq_eq_eq_not, Bool.not_true, Bool.not_false, Int.not_lt, Int.not_le, Decidable.not_not] at h0
      with_reducible refine Rd.next (Rd.seq (Rd.asg (Rd.cB (Rd.cons (Rd.var (by walk_at "vr") (Rd.nil (⟨_, rfl, (Rd.name (Rd.seq (Rd.asg (Rd.op ?_))))⟩)))))))
      with_reducible refine Rd.cB (Rd.cons (Rd.op (Rd.op (Rd.op (Rd.op (Rd.cB (Rd.cons (Rd.var (by walk_at "vr") (Rd.nil ((.inl ⟨_, rfl, (Rd.c ?_)⟩)))))))))))
      with_reducible refine Rd.iC (by walk_at "sc") (Rd.c (Rd.iC (by walk_at "scm") (Rd.op (Rd.c (Rd.var (by walk_at "vr") (Rd.iC (by walk_at "scm") (Rd.i0 (Rd.c (Rd.i0 (Rd.nil ((.inl ⟨_, rfl, ?_⟩))))))))))))
      with_reducible refine Rd.c (Rd.iC (by walk_at "sc") (Rd.name (Rd.seq (Rd.ifS (Rd.test (Rd.op (Rd.var (by walk_at "vr") (Rd.op (Rd.c (Rd.c (Rd.iC (by walk_at "scp") ?_)))))))))))
      with_reducible refine Rd.i0 (Rd.bl ?_)
      refine Rd.ite (fun h1 => ?_) (fun h1 => ?_)
      · try simp only [decide_eq_true_eq, Bool.not_eq_true', decide_eq_false_iff_not, Bool.not_eq_true, Bool.not_eq_eq_eq_not, Bool.not_true, Bool.not_false] at h1
        with_reducible refine Rd.asg (Rd.c (Rd.name (Rd.ret (Rd.lst (Rd.cons (Rd.var (by walk_at "vr") (Rd.cons (Rd.var (by walk_at "vr") (Rd.nil (Rd.laid (by walk_at "ll") ?_))))))))))
        intro p0 np0
        exact k _ _ np0 ⟨_, _, rfl, (by walk_at "sc"), (by walk_at "sc"), (by walk_at "sc")⟩
      · try simp only [decide_eq_true_eq, Bool.not_eq_true', decide_eq_false_iff_not, Bool.not_eq_true, Bool.not_eq_eq_eq_not, Bool.not_true, Bool.not_false, Int.not_lt, Int.not_le, Decidable.not_not] at h1
        with_reducible refine Rd.next (Rd.ret (Rd.lst (Rd.cons (Rd.var (by walk_at "vr") (Rd.cons (Rd.var (by walk_at "vr") (Rd.nil (Rd.laid (by walk_at "ll") ?_))))))))
        intro p0 np0
        exact k _ _ np0 ⟨_, _, rfl, (by walk_at "sc"), (by walk_at "sc"), (by walk_at "sc")⟩
/-! _law_draw -/
theorem sc_l_draw : FnScope ["_law_source_here", "_law_amount", "_law_digit", "_law_found"] ["_law_source_here", "_law_amount"] (defScope s_l_draw) := ⟨rfl, rfl, rfl, by decide +kernel, rfl, by decide +kernel, by decide +kernel⟩
abbrev sp_l_draw (K : PySem.W.Frag) (A : Adr) : Sp := spDraw
theorem ok_l_draw (T : Txt w K mg A) : FnOk P w K mg base CX0 1 A.f_l_draw A.d_l_draw ["_law_source_here", "_law_amount"] (sp_l_draw K A) := by
  refine T.F_l_draw.ok sc_l_draw (fun vs H Q E h => ?_) (fun cdv Ar outer s H vs Q E hr h => ?_)
  · obtain ⟨a, o, m, rfl, ha, ho, hm, hm2, k⟩ := h
    rfl
  · obtain ⟨a, o, m, rfl, ha, ho, hm, hm2, k⟩ := h
    have hu := hu_of hr
    have t_kt_NoSize_in_NoForm := T.kt_NoSize_in_NoForm
    have t_kt_NoSize_in_NoCounter := T.kt_NoSize_in_NoCounter
    have t_kt_NoSize_in_NoScheme := T.kt_NoSize_in_NoScheme
    have t_kt_NoSize_in_NoSize := T.kt_NoSize_in_NoSize
    have t_kt_NoSize_in_NoRing := T.kt_NoSize_in_NoRing
    have t_kt_NoSize_in_Outside := T.kt_NoSize_in_Outside
    have t_kt_NoSize_in_NoRun := T.kt_NoSize_in_NoRun
    have t_kt_NoSize_in_NoSet := T.kt_NoSize_in_NoSet
    have t_kt_NoSize_in_TooLong := T.kt_NoSize_in_TooLong
    have t_kt_NoSize_in_VE := T.kt_NoSize_in_VE
    have t_xm_NoSize := T.xm_NoSize
    have t_kt_Outside_in_NoForm := T.kt_Outside_in_NoForm
    have t_kt_Outside_in_NoCounter := T.kt_Outside_in_NoCounter
    have t_kt_Outside_in_NoScheme := T.kt_Outside_in_NoScheme
    have t_kt_Outside_in_NoSize := T.kt_Outside_in_NoSize
    have t_kt_Outside_in_NoRing := T.kt_Outside_in_NoRing
    have t_kt_Outside_in_Outside := T.kt_Outside_in_Outside
    have t_kt_Outside_in_NoRun := T.kt_Outside_in_NoRun
    have t_kt_Outside_in_NoSet := T.kt_Outside_in_NoSet
    have t_kt_Outside_in_TooLong := T.kt_Outside_in_TooLong
    have t_kt_Outside_in_VE := T.kt_Outside_in_VE
    have t_xm_Outside := T.xm_Outside
    have t_k_Slots := T.k_Slots
    obtain ⟨x, y, rfl, hx, hy, hy2⟩ := ho
    have e1 := Int.emod_nonneg x (show m ≠ 0 by first | omega | decide)
    have e2 := Int.emod_lt_of_pos x hm
    have e3 := Int.ediv_nonneg hx (show 0 ≤ m by first | omega | decide)
    refine ⟨_, (pss_cons (ps_if (pt_cmpR op_gt (pe_ix (Rd.ixLK rfl) (pv 0) pe_int (fun _ _ => rfl)) pe_int (nomark _)) (pss_cons (ps_set (i := 2) sc_l_draw.nd rfl (Or.inl rfl) (pe_op op_mod (pe_callTy call_int1 (by rfl) T.n_int (by decide +kernel) (pa_cons (pe_ix (Rd.ixLK rfl) (pv 0) pe_int (fun _ _ => rfl)) pa_nil)) (pv 1)))
      (pss_cons (ps_asg (pe_op op_fdivW (pe_ix (Rd.ixLK rfl) (pv 0) pe_int (fun _ _ => rfl)) (pv 1)) (pg_sub (pv 0) pe_int set_list))
      (pss_one (ps_ret (pv 2))))) pss_nil)
      (pss_cons (ps_asg (pe_op op_mod (pe_callTy call_int1 (by rfl) T.n_int (by decide +kernel) (pa_cons (pe_op op_add (pe_op op_mulW (pe_ix (Rd.ixLK rfl) (pv 0) pe_int (fun _ _ => rfl)) pe_int) pe_int) pa_nil)) pe_int) (pg_sub (pv 0) pe_int set_list))
      (pss_cons (ps_set (i := 3) sc_l_draw.nd rfl (Or.inl rfl) (pe_op op_fdivW (pe_op op_mod (pe_callTy call_int1 (by rfl) T.n_int (by decide +kernel) (pa_cons (pe_op op_mulW (pe_ix (Rd.ixLK rfl) (pv 0) pe_int (fun _ _ => rfl)) (pe_ix (Rd.ixLK rfl) (pv 0) pe_int (fun _ _ => rfl))) pa_nil)) pe_int) pe_int))
      (pss_cons (ps_if (pt_cmpR op_gt (pv 1) (pe_op op_pow pe_int pe_int) (nomark _)) (pss_cons (ps_asg (pe_op op_mod (pe_callTy call_int1 (by rfl) T.n_int (by decide +kernel) (pa_cons (pe_op op_add (pe_op op_mulW (pe_ix (Rd.ixLK rfl) (pv 0) pe_int (fun _ _ => rfl)) pe_int) pe_int) pa_nil)) pe_int) (pg_sub (pv 0) pe_int set_list))
      (pss_one (ps_set (i := 3) sc_l_draw.nd rfl (Or.inl rfl) (pe_op op_add (pe_op op_mulW (pv 3) pe_int) (pe_op op_fdivW (pe_op op_mod (pe_callTy call_int1 (by rfl) T.n_int (by decide +kernel) (pa_cons (pe_op op_mulW (pe_ix (Rd.ixLK rfl) (pv 0) pe_int (fun _ _ => rfl)) (pe_ix (Rd.ixLK rfl) (pv 0) pe_int (fun _ _ => rfl))) pa_nil)) pe_int) pe_int))))) pss_nil)
      (pss_one (ps_ret (pe_op op_mod (pe_callTy call_int1 (by rfl) T.n_int (by decide +kernel) (pa_cons (pv 3) pa_nil)) (pv 1)))))))), ?_⟩
    try dsimp only [L2.cxOf, L2.Cx.nox, L2.Cx.wish]
    with_reducible refine Rd.seq (Rd.ifS (Rd.test (Rd.op (Rd.op (Rd.var (by walk_at "vr") (Rd.c (Rd.ixL (by walk_at "hpl") (by walk_at "vr") (Rd.c (Rd.i0 (Rd.bl ?_))))))))))
    refine Rd.ite (fun h0 => ?_) (fun h0 => ?_)
    · try simp only [decide_eq_true_eq, Bool.not_eq_true', decide_eq_false_iff_not, Bool.not_eq_true, Bool.not_eq_eq_eq_not, Bool.not_true, Bool.not_false] at h0
      with_reducible refine Rd.seq (Rd.asg (Rd.op (Rd.cB (Rd.cons (Rd.op (Rd.var (by walk_at "vr") (Rd.c (Rd.ixL (by walk_at "hpl") (by walk_at "vr") (Rd.nil ((.inl ⟨_, rfl, (Rd.var (by walk_at "vr") ?_)⟩)))))))))))
      with_reducible refine Rd.iC (by walk_at "sc") (Rd.name (Rd.seq (Rd.asg (Rd.op (Rd.op (Rd.var (by walk_at "vr") (Rd.c (Rd.ixL (by walk_at "hpl") (by walk_at "vr") (Rd.var (by walk_at "vr") (Rd.iC (by walk_at "scd") (Rd.sub ?_)))))))))))
      with_reducible refine Rd.var (by walk_at "vr") (Rd.c (Rd.setL (by walk_at "hp") (by walk_at "ixn") (Rd.ret (Rd.var (by walk_at "vr") ?_))))
      exact k _ _ (by walk_at "sc") (by walk_at "sc") ⟨_, _, rfl, (by walk_at "sc"), (by walk_at "sc"), (by walk_at "sc")⟩
    · try simp only [decide_eq_true_eq, Bool.not_eq_true', decide_eq_false_iff_not, Bool.not_eq_true, Bool.not_eq_eq_eq_not, Bool.not_true, Bool.not_false, Int.not_lt, Int.not_le, Decidable.not_not] at h0
      with_reducible refine Rd.next (Rd.seq (Rd.asg (Rd.op (Rd.cB (Rd.cons (Rd.op (Rd.op (Rd.op (Rd.var (by walk_at "vr") (Rd.c (Rd.ixL (by walk_at "hpl") (by walk_at "vr") ?_)))))))))))
      with_reducible refine Rd.c (Rd.iC (by walk_at "scm") (Rd.c (Rd.i0 (Rd.nil ((.inl ⟨_, rfl, (Rd.c (Rd.iC (by walk_at "sc") (Rd.sub (Rd.var (by walk_at "vr") (Rd.c (Rd.setL (by walk_at "hp") (by walk_at "ixn") ?_))))))⟩))))))
      with_reducible refine Rd.seq (Rd.asg (Rd.op (Rd.op (Rd.cB (Rd.cons (Rd.op (Rd.op (Rd.var (by walk_at "vr") (Rd.c (Rd.ixL (by walk_at "hpl") (by walk_at "vr") (Rd.op ?_)))))))))))
      with_reducible refine Rd.var (by walk_at "vr") (Rd.c (Rd.ixL (by walk_at "hpl") (by walk_at "vr") (Rd.iC (by walk_at "scm") (Rd.nil ((.inl ⟨_, rfl, (Rd.c (Rd.iC (by walk_at "sc") (Rd.c (Rd.iC (by walk_at "scd") (Rd.name (Rd.seq ?_))))))⟩))))))
      with_reducible refine Rd.ifS (Rd.test (Rd.op (Rd.var (by walk_at "vr") (Rd.op (Rd.c (Rd.c (Rd.iC (by walk_at "scp") (Rd.i0 (Rd.bl ?_)))))))))
      refine Rd.ite (fun h1 => ?_) (fun h1 => ?_)
      · try simp only [decide_eq_true_eq, Bool.not_eq_true', decide_eq_false_iff_not, Bool.not_eq_true, Bool.not_eq_eq_eq_not, Bool.not_true, Bool.not_false] at h1
        with_reducible refine Rd.seq (Rd.asg (Rd.op (Rd.cB (Rd.cons (Rd.op (Rd.op (Rd.op (Rd.var (by walk_at "vr") (Rd.c (Rd.ixL (by walk_at "hpl") (by walk_at "vr") (Rd.c ?_)))))))))))
        with_reducible refine Rd.iC (by walk_at "scm") (Rd.c (Rd.i0 (Rd.nil ((.inl ⟨_, rfl, (Rd.c (Rd.iC (by walk_at "sc") (Rd.sub (Rd.var (by walk_at "vr") (Rd.c (Rd.setL (by walk_at "hp") (by walk_at "ixn") (Rd.asg ?_)))))))⟩)))))
        with_reducible refine Rd.op (Rd.op (Rd.var (by walk_at "vr") (Rd.c (Rd.iC (by walk_at "scm") (Rd.op (Rd.op (Rd.cB (Rd.cons (Rd.op (Rd.op (Rd.var (by walk_at "vr") ?_)))))))))))
        with_reducible refine Rd.c (Rd.ixL (by walk_at "hpl") (by walk_at "vr") (Rd.op (Rd.var (by walk_at "vr") (Rd.c (Rd.ixL (by walk_at "hpl") (by walk_at "vr") (Rd.iC (by walk_at "scm") (Rd.nil ((.inl ⟨_, rfl, (Rd.c (Rd.iC (by walk_at "sc") (Rd.c ?_)))⟩)))))))))
        with_reducible refine Rd.iC (by walk_at "scd") (Rd.i0 (Rd.name (Rd.ret (Rd.op (Rd.cB (Rd.cons (Rd.var (by walk_at "vr") (Rd.nil ((.inl ⟨_, rfl, (Rd.var (by walk_at "vr") (Rd.iC (by walk_at "sc") ?_))⟩))))))))))
        (repeat rw [L2.upd_upd])
        exact k _ _ (Int.emod_nonneg _ (by first | omega | decide)) (Int.emod_lt_of_pos _ hm) ⟨_, _, rfl, hx, (by first | omega | decide), (by first | omega | decide)⟩
      · try simp only [decide_eq_true_eq, Bool.not_eq_true', decide_eq_false_iff_not, Bool.not_eq_true, Bool.not_eq_eq_eq_not, Bool.not_true, Bool.not_false, Int.not_lt, Int.not_le, Decidable.not_not] at h1
        with_reducible refine Rd.next (Rd.ret (Rd.op (Rd.cB (Rd.cons (Rd.var (by walk_at "vr") (Rd.nil ((.inl ⟨_, rfl, (Rd.var (by walk_at "vr") (Rd.iC (by walk_at "sc") ?_))⟩))))))))
        (repeat rw [L2.upd_upd])
        exact k _ _ (Int.emod_nonneg _ (by first | omega | decide)) (Int.emod_lt_of_pos _ hm) ⟨_, _, rfl, hx, (by first | omega | decide), (by first | omega | decide)⟩
/-! _law_pick -/
theorem sc_l_pick : FnScope ["_law_source_here", "_law_items"] ["_law_source_here", "_law_items"] (defScope s_l_pick) := ⟨rfl, rfl, rfl, by decide +kernel, rfl, by decide +kernel, by decide +kernel⟩
abbrev sp_l_pick (K : PySem.W.Frag) (A : Adr) : Sp := fun vs H Q _ => ∃ (a l : Addr) (o : HO) (xs : List V), vs = [.ref a, .ref l] ∧ H a = some o ∧ SrcO o ∧ H l = some (.lst xs) ∧ 0 < xs.length ∧ xs.length ≤ 100 ∧ l ≠ a ∧ ∀ (v : V) (o' : HO) (H' : Hp), v ∈ xs → Frm a H H' → H' a = some o' → SrcO o' → Q v H'
theorem ok_l_pick (T : Txt w K mg A) : FnOk P w K mg base CX0 2 A.f_l_pick A.d_l_pick ["_law_source_here", "_law_items"] (sp_l_pick K A) := by
  refine T.F_l_pick.ok sc_l_pick (fun vs H Q E h => ?_) (fun cdv Ar outer s H vs Q E hr h => ?_)
  · obtain ⟨a, l, o, xs, rfl, ha, ho, hl, h0, h1, hne, k⟩ := h
    rfl
  · obtain ⟨a, l, o, xs, rfl, ha, ho, hl, h0, h1, hne, k⟩ := h
    have hu := hu_of hr
    have t_kt_NoSize_in_NoForm := T.kt_NoSize_in_NoForm
    have t_kt_NoSize_in_NoCounter := T.kt_NoSize_in_NoCounter
    have t_kt_NoSize_in_NoScheme := T.kt_NoSize_in_NoScheme
    have t_kt_NoSize_in_NoSize := T.kt_NoSize_in_NoSize
    have t_kt_NoSize_in_NoRing := T.kt_NoSize_in_NoRing
    have t_kt_NoSize_in_Outside := T.kt_NoSize_in_Outside
    have t_kt_NoSize_in_NoRun := T.kt_NoSize_in_NoRun
    have t_kt_NoSize_in_NoSet := T.kt_NoSize_in_NoSet
    have t_kt_NoSize_in_TooLong := T.kt_NoSize_in_TooLong
    have t_kt_NoSize_in_VE := T.kt_NoSize_in_VE
    have t_xm_NoSize := T.xm_NoSize
    have t_kt_Outside_in_NoForm := T.kt_Outside_in_NoForm
    have t_kt_Outside_in_NoCounter := T.kt_Outside_in_NoCounter
    have t_kt_Outside_in_NoScheme := T.kt_Outside_in_NoScheme
    have t_kt_Outside_in_NoSize := T.kt_Outside_in_NoSize
    have t_kt_Outside_in_NoRing := T.kt_Outside_in_NoRing
    have t_kt_Outside_in_Outside := T.kt_Outside_in_Outside
    have t_kt_Outside_in_NoRun := T.kt_Outside_in_NoRun
    have t_kt_Outside_in_NoSet := T.kt_Outside_in_NoSet
    have t_kt_Outside_in_TooLong := T.kt_Outside_in_TooLong
    have t_kt_Outside_in_VE := T.kt_Outside_in_VE
    have t_xm_Outside := T.xm_Outside
    have t_k_Slots := T.k_Slots
    refine ⟨_, (pss_one (ps_ret (pe_ix (Rd.ixLK rfl) (pv 1) (pe_call (ok_l_draw T) (hr.mono (by decide)) (by rfl) T.m_l_draw T.F_l_draw.kp T.b_l_draw .nil pass0 (pa_cons (pv 0) (pa_cons (pe_callB call_len_seq (by rfl) T.n_len PySem.boot_len (pa_cons (pv 1) pa_nil)) pa_nil))) (fun _ _ => rfl)))), ?_⟩
    try dsimp only [L2.cxOf, L2.Cx.nox, L2.Cx.wish]
    with_reducible refine Rd.ret (Rd.op (Rd.var (by walk_at "vr") (Rd.call (Rd.cons (Rd.var (by walk_at "vr") (Rd.cons (Rd.cB (Rd.cons (Rd.var (by walk_at "vr") (Rd.nil (⟨_, _, rfl, (by walk_at "hpq"), ?_⟩)))))))))))
    with_reducible refine Rd.nil ?_
    refine ⟨_, _, _, rfl, (by walk_at "hp"), (by walk_at "sc"), (by walk_at "sc"), (by walk_at "sc"), fun d1 o1 d1a d1b s1 => ?_⟩
    refine Rd.pickAny (by walk_at "hpl") d1a d1b (fun v hv => ?_)
    exact k _ _ _ hv (by walk_at "frm") (by walk_at "hp") (by assumption)
/-! _law_kind -/
theorem sc_l_kind : FnScope ["_law_e", "_law_words"] ["_law_e"] (defScope s_l_kind) := ⟨rfl, rfl, rfl, by decide +kernel, rfl, by decide +kernel, by decide +kernel⟩
theorem st_l_kind {v0 : V} : L2.start ["_law_e", "_law_words"] [v0] = [some v0, none] := rfl
abbrev sp_l_kind (K : PySem.W.Frag) (A : Adr) (p : Addr × Obj) : Sp := fun vs H Q _ => ∃ (D : Addr) (nm : Str), vs = [.ref p.1] ∧ Zc (.ref D) none p.2 ∧ (∃ vs, p.2.data = .fields vs) ∧ Due A D nm ∧ ∀ H', Same H H' → Q (.str nm) H'
theorem ok_l_kind (T : Txt w K mg A) : Er.FnE P w K mg base 1 A.f_l_kind A.d_l_kind ["_law_e"] (sp_l_kind K A) := by
  refine Er.okE T.F_l_kind sc_l_kind (fun p vs H Q E h => ?_) (fun cdv Ar outer s H vs Q p hr h => ?_)
  · obtain ⟨D, nm, rfl, hz, hf, hd, k⟩ := h
    rfl
  · obtain ⟨D, nm, rfl, hz, hf, hd, k⟩ := h
    have t_kt_NoSize_in_NoForm := T.kt_NoSize_in_NoForm
    have t_kt_NoSize_in_NoCounter := T.kt_NoSize_in_NoCounter
    have t_kt_NoSize_in_NoScheme := T.kt_NoSize_in_NoScheme
    have t_kt_NoSize_in_NoSize := T.kt_NoSize_in_NoSize
    have t_kt_NoSize_in_NoRing := T.kt_NoSize_in_NoRing
    have t_kt_NoSize_in_Outside := T.kt_NoSize_in_Outside
    have t_kt_NoSize_in_NoRun := T.kt_NoSize_in_NoRun
    have t_kt_NoSize_in_NoSet := T.kt_NoSize_in_NoSet
    have t_kt_NoSize_in_TooLong := T.kt_NoSize_in_TooLong
    have t_kt_NoSize_in_VE := T.kt_NoSize_in_VE
    have t_xm_NoSize := T.xm_NoSize
    have t_kt_Outside_in_NoForm := T.kt_Outside_in_NoForm
    have t_kt_Outside_in_NoCounter := T.kt_Outside_in_NoCounter
    have t_kt_Outside_in_NoScheme := T.kt_Outside_in_NoScheme
    have t_kt_Outside_in_NoSize := T.kt_Outside_in_NoSize
    have t_kt_Outside_in_NoRing := T.kt_Outside_in_NoRing
    have t_kt_Outside_in_Outside := T.kt_Outside_in_Outside
    have t_kt_Outside_in_NoRun := T.kt_Outside_in_NoRun
    have t_kt_Outside_in_NoSet := T.kt_Outside_in_NoSet
    have t_kt_Outside_in_TooLong := T.kt_Outside_in_TooLong
    have t_kt_Outside_in_VE := T.kt_Outside_in_VE
    have t_xm_Outside := T.xm_Outside
    rcases hd with ⟨rfl, rfl⟩ | ⟨rfl, rfl⟩
    · skip
      refine ⟨_, (pss_cons (ps_set (i := 1) sc_l_kind.nd rfl (Or.inl rfl) (pe_lst (pa_cons (pe_callB (Er.call_isP (K := K) (p := p) rfl List.mem_cons_self) (by rfl) T.n_isinstance (by decide +kernel) (pa_cons (pv 0) (pa_cons (pe_glob (v := .ref A.c_NoCounter) rfl T.m_NoCounter rfl) pa_nil))) (pa_cons (pe_callB (Er.call_isP (K := K) (p := p) rfl List.mem_cons_self) (by rfl) T.n_isinstance (by decide +kernel) (pa_cons (pv 0) (pa_cons (pe_glob (v := .ref A.c_NoRing) rfl T.m_NoRing rfl) pa_nil))) (pa_cons (pe_callB (Er.call_isP (K := K) (p := p) rfl List.mem_cons_self) (by rfl) T.n_isinstance (by decide +kernel) (pa_cons (pv 0) (pa_cons (pe_glob (v := .ref A.c_NoSize) rfl T.m_NoSize rfl) pa_nil))) (pa_cons (pe_callB (Er.call_isP (K := K) (p := p) rfl List.mem_cons_self) (by rfl) T.n_isinstance (by decide +kernel) (pa_cons (pv 0) (pa_cons (pe_glob (v := .ref A.c_Outside) rfl T.m_Outside rfl) pa_nil))) pa_nil))))))
      (pss_cons (ps_set (i := 1) sc_l_kind.nd rfl (Or.inl rfl) (pe_op op_cat (pv 1) (pe_lst (pa_cons (pe_callB (Er.call_isP (K := K) (p := p) rfl List.mem_cons_self) (by rfl) T.n_isinstance (by decide +kernel) (pa_cons (pv 0) (pa_cons (pe_glob (v := .ref A.c_NoRun) rfl T.m_NoRun rfl) pa_nil))) (pa_cons (pe_callB (Er.call_isP (K := K) (p := p) rfl List.mem_cons_self) (by rfl) T.n_isinstance (by decide +kernel) (pa_cons (pv 0) (pa_cons (pe_glob (v := .ref A.c_NoSet) rfl T.m_NoSet rfl) pa_nil))) (pa_cons (pe_callB (Er.call_isP (K := K) (p := p) rfl List.mem_cons_self) (by rfl) T.n_isinstance (by decide +kernel) (pa_cons (pv 0) (pa_cons (pe_glob (v := .ref A.c_TooLong) rfl T.m_TooLong rfl) pa_nil))) pa_nil))))))
      (pss_cons (ps_if (PW.pt (pw_or (pt_cmpR op_ne (pe_bm PySem.F.plainAttrs_list PySem.F.slot_list_count PySem.F.type_list_count Cnt.mt_countB (pv 1) (pa_cons pe_bl pa_nil)) pe_int (nomark _)) (pw_or (pt_not (pt_val (pe_callB (Er.call_isP (K := K) (p := p) rfl List.mem_cons_self) (by rfl) T.n_isinstance (by decide +kernel) (pa_cons (pv 0) (pa_cons (pe_bltn (v := .ty "ValueError") (u := .type "ValueError") (by rfl) T.n_ValueError (by decide +kernel) rfl) pa_nil))))) (pw_or1 (pt_val (pe_callB (Er.call_isPT (K := K) (p := p) rfl List.mem_cons_self) (by rfl) T.n_isinstance (by decide +kernel) (pa_cons (pv 0) (pa_cons (pe_tup (pa_cons (pe_glob (v := .ref A.c_NoForm) rfl T.m_NoForm rfl) (pa_cons (pe_glob (v := .ref A.c_NoScheme) rfl T.m_NoScheme rfl) pa_nil))) pa_nil)))))))) (pss_one ps_never) pss_nil)
      (pss_one (ps_ret (pe_ix (Rd.ixLK rfl) (pe_lst (pa_cons pe_str (pa_cons pe_str (pa_cons pe_str (pa_cons pe_str (pa_cons pe_str (pa_cons pe_str (pa_cons pe_str pa_nil)))))))) (pe_bm PySem.F.plainAttrs_list PySem.F.slot_list_index PySem.F.type_list_index mt_index (pv 1) (pa_cons pe_bl pa_nil)) (fun _ _ => rfl))))))), ?_⟩
      try dsimp only [L2H.cxH, L2.cxOf, L2.Cx.nox, L2.Cx.wish]
      with_reducible refine Rd.seq (Rd.asg (Rd.lst (Rd.cons (Rd.cB (Rd.cons (Rd.var (by walk_at "vr") (Rd.cons (Rd.c (Rd.nil ?_)))))))))
      refine ⟨_, _, _, _, rfl, hz, hf, T.ec_NoSize, (by walk_at "clsv"), (by walk_at "kit"), ?_⟩
      with_reducible refine Rd.cons (Rd.cB (Rd.cons (Rd.var (by walk_at "vr") (Rd.cons (Rd.c (Rd.nil ?_))))))
      refine ⟨_, _, _, _, rfl, hz, hf, T.ec_NoSize, (by walk_at "clsv"), (by walk_at "kit"), ?_⟩
      with_reducible refine Rd.cons (Rd.cB (Rd.cons (Rd.var (by walk_at "vr") (Rd.cons (Rd.c (Rd.nil ?_))))))
      refine ⟨_, _, _, _, rfl, hz, hf, T.ec_NoSize, (by walk_at "clsv"), (by walk_at "kit"), ?_⟩
      with_reducible refine Rd.cons (Rd.cB (Rd.cons (Rd.var (by walk_at "vr") (Rd.cons (Rd.c (Rd.nil ?_))))))
      refine ⟨_, _, _, _, rfl, hz, hf, T.ec_NoSize, (by walk_at "clsv"), (by walk_at "kit"), ?_⟩
      with_reducible refine Rd.nil (Rd.laid (by walk_at "ll") ?_)
      intro p0 np0
      with_reducible refine Rd.name ?_
      try dsimp only [Int.reduceToNat, List.set]
      with_reducible refine Rd.seq (Rd.asg (Rd.op (Rd.var (by walk_at "vr") (Rd.lst (Rd.cons (Rd.cB (Rd.cons (Rd.var (by walk_at "vr") (Rd.cons (Rd.c (Rd.nil ?_)))))))))))
      refine ⟨_, _, _, _, rfl, hz, hf, T.ec_NoSize, (by walk_at "clsv"), (by walk_at "kit"), ?_⟩
      with_reducible refine Rd.cons (Rd.cB (Rd.cons (Rd.var (by walk_at "vr") (Rd.cons (Rd.c (Rd.nil ?_))))))
      refine ⟨_, _, _, _, rfl, hz, hf, T.ec_NoSize, (by walk_at "clsv"), (by walk_at "kit"), ?_⟩
      with_reducible refine Rd.cons (Rd.cB (Rd.cons (Rd.var (by walk_at "vr") (Rd.cons (Rd.c (Rd.nil ?_))))))
      refine ⟨_, _, _, _, rfl, hz, hf, T.ec_NoSize, (by walk_at "clsv"), (by walk_at "kit"), ?_⟩
      with_reducible refine Rd.nil (Rd.laid (by walk_at "ll") ?_)
      intro p1 np1
      with_reducible refine Rd.catL (by walk_at "hp") (by walk_at "hp") (by walk_at "ll") ?_
      intro c1 nc1
      simp (proj := false) only [List.cons_append, List.nil_append]
      with_reducible refine Rd.name ?_
      try dsimp only [Int.reduceToNat, List.set]
      with_reducible refine Rd.seq (Rd.ifS (Rd.or (Rd.test (Rd.op ?_))))
      try unfold tBM
      with_reducible refine Rd.var (by walk_at "vr") ?_
      refine ⟨Or.inl ⟨rfl, _, (by walk_at "hpl")⟩, ?_⟩
      with_reducible refine Rd.cons (Rd.c (Rd.nil ?_))
      refine ⟨_, [false, false, true, false, false, false, false], _, rfl, rfl, (L2.SqL.of (by with_unfolding_all exact L2.upd_same)), ?_⟩
      with_reducible refine Rd.c (Rd.neS (by walk_at "vr") (Rd.bl (Rd.iteF (by walk_at "bF") (Rd.or (Rd.not (Rd.tb (Rd.cB (Rd.cons (Rd.var (by walk_at "vr") (Rd.cons (Rd.c ?_)))))))))))
      with_reducible refine Rd.nil ?_
      refine ⟨_, _, _, _, rfl, hz, hf, T.ec_NoSize, (by walk_at "clsv"), (by walk_at "kit"), ?_⟩
      with_reducible refine Rd.bl (Rd.iteF (by walk_at "bF") (Rd.tb (Rd.cB (Rd.cons (Rd.var (by walk_at "vr") (Rd.cons (Rd.tup (Rd.cons (Rd.c (Rd.cons (Rd.c ?_)))))))))))
      with_reducible refine Rd.nil (Rd.laid (by walk_at "ll") ?_)
      intro p2 np2
      with_reducible refine Rd.nil ?_
      refine ⟨_, _, _, _, _, rfl, (by walk_at "hp"), (.cons (.own _) (.cons (.own _) .nil)), hz, hf, T.ec_NoSize, Er.any2 (by walk_at "kit") (by walk_at "kit"), ?_⟩
      with_reducible refine Rd.bl (Rd.iteF (by walk_at "bF") (Rd.next (Rd.ret (Rd.op (Rd.lst (Rd.cons (Rd.c (Rd.cons (Rd.c (Rd.cons (Rd.c ?_)))))))))))
      with_reducible refine Rd.cons (Rd.c (Rd.cons (Rd.c (Rd.cons (Rd.c (Rd.cons (Rd.c (Rd.nil (Rd.laid (by walk_at "ll") ?_)))))))))
      intro p3 np3
      try unfold tBM
      with_reducible refine Rd.var (by walk_at "vr") ?_
      refine ⟨Or.inl ⟨rfl, _, (by walk_at "hpl")⟩, ?_⟩
      with_reducible refine Rd.cons (Rd.c (Rd.nil ?_))
      refine ⟨_, _, _, 2, _, rfl, rfl, (by walk_at "hpl"), rfl, rfl, rfl, rfl, (by intro m z hm e; match m, hm, e with | 0, _, e => (cases e; rfl) | 1, _, e => (cases e; rfl) | (_ + 2), hm, _ => exact absurd hm (by omega)), ?_⟩
      refine Rd.ixL (v := .str "size") (by walk_at "hpl") (show atI _ ((2 : Nat) : Int) = _ from atI_nat rfl) ?_
      exact k _ (by walk_at "frm")
    · skip
      refine ⟨_, (pss_cons (ps_set (i := 1) sc_l_kind.nd rfl (Or.inl rfl) (pe_lst (pa_cons (pe_callB (Er.call_isP (K := K) (p := p) rfl List.mem_cons_self) (by rfl) T.n_isinstance (by decide +kernel) (pa_cons (pv 0) (pa_cons (pe_glob (v := .ref A.c_NoCounter) rfl T.m_NoCounter rfl) pa_nil))) (pa_cons (pe_callB (Er.call_isP (K := K) (p := p) rfl List.mem_cons_self) (by rfl) T.n_isinstance (by decide +kernel) (pa_cons (pv 0) (pa_cons (pe_glob (v := .ref A.c_NoRing) rfl T.m_NoRing rfl) pa_nil))) (pa_cons (pe_callB (Er.call_isP (K := K) (p := p) rfl List.mem_cons_self) (by rfl) T.n_isinstance (by decide +kernel) (pa_cons (pv 0) (pa_cons (pe_glob (v := .ref A.c_NoSize) rfl T.m_NoSize rfl) pa_nil))) (pa_cons (pe_callB (Er.call_isP (K := K) (p := p) rfl List.mem_cons_self) (by rfl) T.n_isinstance (by decide +kernel) (pa_cons (pv 0) (pa_cons (pe_glob (v := .ref A.c_Outside) rfl T.m_Outside rfl) pa_nil))) pa_nil))))))
      (pss_cons (ps_set (i := 1) sc_l_kind.nd rfl (Or.inl rfl) (pe_op op_cat (pv 1) (pe_lst (pa_cons (pe_callB (Er.call_isP (K := K) (p := p) rfl List.mem_cons_self) (by rfl) T.n_isinstance (by decide +kernel) (pa_cons (pv 0) (pa_cons (pe_glob (v := .ref A.c_NoRun) rfl T.m_NoRun rfl) pa_nil))) (pa_cons (pe_callB (Er.call_isP (K := K) (p := p) rfl List.mem_cons_self) (by rfl) T.n_isinstance (by decide +kernel) (pa_cons (pv 0) (pa_cons (pe_glob (v := .ref A.c_NoSet) rfl T.m_NoSet rfl) pa_nil))) (pa_cons (pe_callB (Er.call_isP (K := K) (p := p) rfl List.mem_cons_self) (by rfl) T.n_isinstance (by decide +kernel) (pa_cons (pv 0) (pa_cons (pe_glob (v := .ref A.c_TooLong) rfl T.m_TooLong rfl) pa_nil))) pa_nil))))))
      (pss_cons (ps_if (PW.pt (pw_or (pt_cmpR op_ne (pe_bm PySem.F.plainAttrs_list PySem.F.slot_list_count PySem.F.type_list_count Cnt.mt_countB (pv 1) (pa_cons pe_bl pa_nil)) pe_int (nomark _)) (pw_or (pt_not (pt_val (pe_callB (Er.call_isP (K := K) (p := p) rfl List.mem_cons_self) (by rfl) T.n_isinstance (by decide +kernel) (pa_cons (pv 0) (pa_cons (pe_bltn (v := .ty "ValueError") (u := .type "ValueError") (by rfl) T.n_ValueError (by decide +kernel) rfl) pa_nil))))) (pw_or1 (pt_val (pe_callB (Er.call_isPT (K := K) (p := p) rfl List.mem_cons_self) (by rfl) T.n_isinstance (by decide +kernel) (pa_cons (pv 0) (pa_cons (pe_tup (pa_cons (pe_glob (v := .ref A.c_NoForm) rfl T.m_NoForm rfl) (pa_cons (pe_glob (v := .ref A.c_NoScheme) rfl T.m_NoScheme rfl) pa_nil))) pa_nil)))))))) (pss_one ps_never) pss_nil)
      (pss_one (ps_ret (pe_ix (Rd.ixLK rfl) (pe_lst (pa_cons pe_str (pa_cons pe_str (pa_cons pe_str (pa_cons pe_str (pa_cons pe_str (pa_cons pe_str (pa_cons pe_str pa_nil)))))))) (pe_bm PySem.F.plainAttrs_list PySem.F.slot_list_index PySem.F.type_list_index mt_index (pv 1) (pa_cons pe_bl pa_nil)) (fun _ _ => rfl))))))), ?_⟩
      try dsimp only [L2H.cxH, L2.cxOf, L2.Cx.nox, L2.Cx.wish]
      with_reducible refine Rd.seq (Rd.asg (Rd.lst (Rd.cons (Rd.cB (Rd.cons (Rd.var (by walk_at "vr") (Rd.cons (Rd.c (Rd.nil ?_)))))))))
      refine ⟨_, _, _, _, rfl, hz, hf, T.ec_Outside, (by walk_at "clsv"), (by walk_at "kit"), ?_⟩
      with_reducible refine Rd.cons (Rd.cB (Rd.cons (Rd.var (by walk_at "vr") (Rd.cons (Rd.c (Rd.nil ?_))))))
      refine ⟨_, _, _, _, rfl, hz, hf, T.ec_Outside, (by walk_at "clsv"), (by walk_at "kit"), ?_⟩
      with_reducible refine Rd.cons (Rd.cB (Rd.cons (Rd.var (by walk_at "vr") (Rd.cons (Rd.c (Rd.nil ?_))))))
      refine ⟨_, _, _, _, rfl, hz, hf, T.ec_Outside, (by walk_at "clsv"), (by walk_at "kit"), ?_⟩
      with_reducible refine Rd.cons (Rd.cB (Rd.cons (Rd.var (by walk_at "vr") (Rd.cons (Rd.c (Rd.nil ?_))))))
      refine ⟨_, _, _, _, rfl, hz, hf, T.ec_Outside, (by walk_at "clsv"), (by walk_at "kit"), ?_⟩
      with_reducible refine Rd.nil (Rd.laid (by walk_at "ll") ?_)
      intro p0 np0
      with_reducible refine Rd.name ?_
      try dsimp only [Int.reduceToNat, List.set]
      with_reducible refine Rd.seq (Rd.asg (Rd.op (Rd.var (by walk_at "vr") (Rd.lst (Rd.cons (Rd.cB (Rd.cons (Rd.var (by walk_at "vr") (Rd.cons (Rd.c (Rd.nil ?_)))))))))))
      refine ⟨_, _, _, _, rfl, hz, hf, T.ec_Outside, (by walk_at "clsv"), (by walk_at "kit"), ?_⟩
      with_reducible refine Rd.cons (Rd.cB (Rd.cons (Rd.var (by walk_at "vr") (Rd.cons (Rd.c (Rd.nil ?_))))))
      refine ⟨_, _, _, _, rfl, hz, hf, T.ec_Outside, (by walk_at "clsv"), (by walk_at "kit"), ?_⟩
      with_reducible refine Rd.cons (Rd.cB (Rd.cons (Rd.var (by walk_at "vr") (Rd.cons (Rd.c (Rd.nil ?_))))))
      refine ⟨_, _, _, _, rfl, hz, hf, T.ec_Outside, (by walk_at "clsv"), (by walk_at "kit"), ?_⟩
      with_reducible refine Rd.nil (Rd.laid (by walk_at "ll") ?_)
      intro p1 np1
      with_reducible refine Rd.catL (by walk_at "hp") (by walk_at "hp") (by walk_at "ll") ?_
      intro c1 nc1
      simp (proj := false) only [List.cons_append, List.nil_append]
      with_reducible refine Rd.name ?_
      try dsimp only [Int.reduceToNat, List.set]
      with_reducible refine Rd.seq (Rd.ifS (Rd.or (Rd.test (Rd.op ?_))))
      try unfold tBM
      with_reducible refine Rd.var (by walk_at "vr") ?_
      refine ⟨Or.inl ⟨rfl, _, (by walk_at "hpl")⟩, ?_⟩
      with_reducible refine Rd.cons (Rd.c (Rd.nil ?_))
      refine ⟨_, [false, false, false, true, false, false, false], _, rfl, rfl, (L2.SqL.of (by with_unfolding_all exact L2.upd_same)), ?_⟩
      with_reducible refine Rd.c (Rd.neS (by walk_at "vr") (Rd.bl (Rd.iteF (by walk_at "bF") (Rd.or (Rd.not (Rd.tb (Rd.cB (Rd.cons (Rd.var (by walk_at "vr") (Rd.cons (Rd.c ?_)))))))))))
      with_reducible refine Rd.nil ?_
      refine ⟨_, _, _, _, rfl, hz, hf, T.ec_Outside, (by walk_at "clsv"), (by walk_at "kit"), ?_⟩
      with_reducible refine Rd.bl (Rd.iteF (by walk_at "bF") (Rd.tb (Rd.cB (Rd.cons (Rd.var (by walk_at "vr") (Rd.cons (Rd.tup (Rd.cons (Rd.c (Rd.cons (Rd.c ?_)))))))))))
      with_reducible refine Rd.nil (Rd.laid (by walk_at "ll") ?_)
      intro p2 np2
      with_reducible refine Rd.nil ?_
      refine ⟨_, _, _, _, _, rfl, (by walk_at "hp"), (.cons (.own _) (.cons (.own _) .nil)), hz, hf, T.ec_Outside, Er.any2 (by walk_at "kit") (by walk_at "kit"), ?_⟩
      with_reducible refine Rd.bl (Rd.iteF (by walk_at "bF") (Rd.next (Rd.ret (Rd.op (Rd.lst (Rd.cons (Rd.c (Rd.cons (Rd.c (Rd.cons (Rd.c ?_)))))))))))
      with_reducible refine Rd.cons (Rd.c (Rd.cons (Rd.c (Rd.cons (Rd.c (Rd.cons (Rd.c (Rd.nil (Rd.laid (by walk_at "ll") ?_)))))))))
      intro p3 np3
      try unfold tBM
      with_reducible refine Rd.var (by walk_at "vr") ?_
      refine ⟨Or.inl ⟨rfl, _, (by walk_at "hpl")⟩, ?_⟩
      with_reducible refine Rd.cons (Rd.c (Rd.nil ?_))
      refine ⟨_, _, _, 3, _, rfl, rfl, (by walk_at "hpl"), rfl, rfl, rfl, rfl, (by intro m z hm e; match m, hm, e with | 0, _, e => (cases e; rfl) | 1, _, e => (cases e; rfl) | 2, _, e => (cases e; rfl) | (_ + 3), hm, _ => exact absurd hm (by omega)), ?_⟩
      refine Rd.ixL (v := .str "outside") (by walk_at "hpl") (show atI _ ((3 : Nat) : Int) = _ from atI_nat rfl) ?_
      exact k _ (by walk_at "frm")
/-! _law_lay -/
theorem sc_l_lay : FnScope ["_law_slots", "_law_at", "_law_value"] ["_law_slots", "_law_at", "_law_value"] (defScope s_l_lay) := ⟨rfl, rfl, rfl, by decide +kernel, rfl, by decide +kernel, by decide +kernel⟩
theorem st_l_lay {v0 v1 v2 : V} : L2.start ["_law_slots", "_law_at", "_law_value"] [v0, v1, v2] = [some v0, some v1, some v2] := rfl
abbrev sp_l_lay (K : PySem.W.Frag) (A : Adr) : Sp := fun vs H Q _ => ∃ (p dx l : Addr) (os : List (Option Int)) (j i : Int), vs = [.ref p, .int j, .int i] ∧ H p = some (.ins A.c_Slots dx (fS l)) ∧ H l = some (.lst (os.map Rd.ov)) ∧ 0 ≤ j ∧ j < (os.length : Int) ∧ Q .non (upd H l (.lst ((os.set j.toNat (some i)).map Rd.ov)))
theorem ok_l_lay (T : Txt w K mg A) : FnOk P w K mg base CX0 5 A.f_l_lay A.d_l_lay ["_law_slots", "_law_at", "_law_value"] (sp_l_lay K A) := by
  refine T.F_l_lay.ok sc_l_lay (fun vs H Q E h => ?_) (fun cdv Ar outer s H vs Q E hr h => ?_)
  · obtain ⟨p, dx, l, os, j, i, rfl, hp, hl, j0, j1, k⟩ := h
    rfl
  · obtain ⟨p, dx, l, os, j, i, rfl, hp, hl, j0, j1, k⟩ := h
    have hu := hu_of hr
    have t_kt_NoSize_in_NoForm := T.kt_NoSize_in_NoForm
    have t_kt_NoSize_in_NoCounter := T.kt_NoSize_in_NoCounter
    have t_kt_NoSize_in_NoScheme := T.kt_NoSize_in_NoScheme
    have t_kt_NoSize_in_NoSize := T.kt_NoSize_in_NoSize
    have t_kt_NoSize_in_NoRing := T.kt_NoSize_in_NoRing
    have t_kt_NoSize_in_Outside := T.kt_NoSize_in_Outside
    have t_kt_NoSize_in_NoRun := T.kt_NoSize_in_NoRun
    have t_kt_NoSize_in_NoSet := T.kt_NoSize_in_NoSet
    have t_kt_NoSize_in_TooLong := T.kt_NoSize_in_TooLong
    have t_kt_NoSize_in_VE := T.kt_NoSize_in_VE
    have t_xm_NoSize := T.xm_NoSize
    have t_kt_Outside_in_NoForm := T.kt_Outside_in_NoForm
    have t_kt_Outside_in_NoCounter := T.kt_Outside_in_NoCounter
    have t_kt_Outside_in_NoScheme := T.kt_Outside_in_NoScheme
    have t_kt_Outside_in_NoSize := T.kt_Outside_in_NoSize
    have t_kt_Outside_in_NoRing := T.kt_Outside_in_NoRing
    have t_kt_Outside_in_Outside := T.kt_Outside_in_Outside
    have t_kt_Outside_in_NoRun := T.kt_Outside_in_NoRun
    have t_kt_Outside_in_NoSet := T.kt_Outside_in_NoSet
    have t_kt_Outside_in_TooLong := T.kt_Outside_in_TooLong
    have t_kt_Outside_in_VE := T.kt_Outside_in_VE
    have t_xm_Outside := T.xm_Outside
    have t_k_Slots := T.k_Slots
    refine ⟨_, (pss_one (ps_asg (pv 2) (SetO.pg_subS (ok_Slotsu__setitemu_ T) (hr.mono (by decide)) T.nq_Slots T.O_Slotsu__setitemu__1 T.b_Slotsu__setitemu_ (SetO.at_of Sta.passF) (pv 0) (pv 1)))), ?_⟩
    try dsimp only [L2.cxOf, L2.Cx.nox, L2.Cx.wish]
    try rw [st_l_lay]
    with_reducible refine Rd.asg (Rd.var (by walk_at "vr") (Rd.subS (Rd.var (by walk_at "vr") (Rd.var (by walk_at "vr") ?_))))
    refine ⟨_, _, _, rfl, (by walk_at "hp"), ?_⟩
    refine ⟨_, _, _, _, _, _, rfl, (by walk_at "hp"), (by walk_at "hp"), .inl ⟨_, rfl, (by omega), (by omega), ?_⟩⟩
    exact k
/-! _law_error -/
theorem sc_l_error : FnScope ["_law_way", "_law_slots", "_law_at", "_law_found", "_law_e"] ["_law_way", "_law_slots", "_law_at"] (defScope s_l_error) := ⟨rfl, rfl, rfl, by decide +kernel, rfl, by decide +kernel, by decide +kernel⟩
theorem st_l_error {v0 v1 v2 : V} : L2.start ["_law_way", "_law_slots", "_law_at", "_law_found", "_law_e"] [v0, v1, v2] = [some v0, some v1, some v2, none, none] := rfl
abbrev sp_l_error (K : PySem.W.Frag) (A : Adr) : Sp := fun vs H Q _ => ∃ (way : Int) (p dx l : Addr) (os : List (Option Int)) (y : V) (nm : Str), vs = [.int way, .ref p, y] ∧ H p = some (.ins A.c_Slots dx (fS l)) ∧ H l = some (.lst (os.map Rd.ov)) ∧ ((way = 0 ∨ way = 1) ∧ BadS K H os.length y ∧ nm = "outside" ∨ way = 2 ∧ BadZ K H y ∧ nm = "size") ∧ ∀ H', Same H H' → Q (.str nm) H'
theorem ok_l_error (T : Txt w K mg A) : FnOk P w K mg base CX0 6 A.f_l_error A.d_l_error ["_law_way", "_law_slots", "_law_at"] (sp_l_error K A) := by
  refine T.F_l_error.ok sc_l_error (fun vs H Q E h => ?_) (fun cdv Ar outer s H vs Q E hr h => ?_)
  · obtain ⟨way, p, dx, l, os, y, nm, rfl, hp, hl, hy, k⟩ := h
    rfl
  · obtain ⟨way, p, dx, l, os, y, nm, rfl, hp, hl, hy, k⟩ := h
    have hu := hu_of hr
    have t_kt_NoSize_in_NoForm := T.kt_NoSize_in_NoForm
    have t_kt_NoSize_in_NoCounter := T.kt_NoSize_in_NoCounter
    have t_kt_NoSize_in_NoScheme := T.kt_NoSize_in_NoScheme
    have t_kt_NoSize_in_NoSize := T.kt_NoSize_in_NoSize
    have t_kt_NoSize_in_NoRing := T.kt_NoSize_in_NoRing
    have t_kt_NoSize_in_Outside := T.kt_NoSize_in_Outside
    have t_kt_NoSize_in_NoRun := T.kt_NoSize_in_NoRun
    have t_kt_NoSize_in_NoSet := T.kt_NoSize_in_NoSet
    have t_kt_NoSize_in_TooLong := T.kt_NoSize_in_TooLong
    have t_kt_NoSize_in_VE := T.kt_NoSize_in_VE
    have t_xm_NoSize := T.xm_NoSize
    have t_kt_Outside_in_NoForm := T.kt_Outside_in_NoForm
    have t_kt_Outside_in_NoCounter := T.kt_Outside_in_NoCounter
    have t_kt_Outside_in_NoScheme := T.kt_Outside_in_NoScheme
    have t_kt_Outside_in_NoSize := T.kt_Outside_in_NoSize
    have t_kt_Outside_in_NoRing := T.kt_Outside_in_NoRing
    have t_kt_Outside_in_Outside := T.kt_Outside_in_Outside
    have t_kt_Outside_in_NoRun := T.kt_Outside_in_NoRun
    have t_kt_Outside_in_NoSet := T.kt_Outside_in_NoSet
    have t_kt_Outside_in_TooLong := T.kt_Outside_in_TooLong
    have t_kt_Outside_in_VE := T.kt_Outside_in_VE
    have t_xm_Outside := T.xm_Outside
    have t_k_Slots := T.k_Slots
    rcases hy with ⟨rfl | rfl, hb, rfl⟩ | ⟨rfl, hb, rfl⟩
    · skip
      refine ⟨_, (pss_cons (ps_set (i := 3) sc_l_error.nd rfl (Or.inl rfl) pe_non)
      (pss_cons (ps_try_as (i := 4) rfl rfl sc_l_error.nd rfl rfl ⟨by rfl, by decide, .inl T.m_RingError⟩ takes0 (fun W pn xe tk _ => (pss_one (ps_if (pt_cmpR op_eq (pv 0) pe_int (nomark _)) (pss_one (ps_set (i := 3) sc_l_error.nd rfl (Or.inl rfl) (TrO.pe_itemS (ok_Slotsu__getitemu_ T) (hr.mono (by decide)) T.O_Slotsu__getitemu__1 T.fi_Slotsu__getitemu_ T.b_Slotsu__getitemu_ (fun σ => passAt tk σ) (pv 1) (pv 2)))) (pss_one ps_never)))) (fun ea oe cls d pn hz hf => (pss_one (ps_set (i := 3) sc_l_error.nd rfl (Or.inl rfl) (Er.pe_callE (P := P) (w := w) (K := K) (mg := mg) (base := base) (i := 4) rfl rfl rfl rfl rfl (ok_l_kind T) hz hf List.mem_cons_self (Er.roomS (hr.mono (by decide))) (by rfl) T.m_l_kind T.F_l_kind.kp T.b_l_kind rfl (by first | exact Or.inl rfl | exact Or.inr (Or.inl rfl) | exact Or.inr (Or.inr rfl)))))))
      (pss_one (ps_ret (pv 3))))), ?_⟩
      try dsimp only [L2.cxOf, L2.Cx.nox, L2.Cx.wish]
      try rw [st_l_error]
      with_reducible refine Rd.seq (Rd.asg (Rd.c (Rd.name ?_)))
      try dsimp only [Int.reduceToNat, List.set]
      with_reducible refine Rd.seq ?_
      try dsimp only
      with_reducible refine Rd.ifS (Rd.test (Rd.op (Rd.var (by walk_at "vr") (Rd.c (Rd.eqS (by walk_at "vr") (Rd.bl (Rd.iteT (by walk_at "bT") (Rd.asg (Rd.itS (Rd.var (by walk_at "vr") (Rd.var (by walk_at "vr") ?_)))))))))))
      refine ⟨_, _, _, rfl, (by walk_at "hp"), ?_⟩
      refine ⟨_, _, _, _, _, rfl, (by walk_at "hp"), (by walk_at "hp"), .inr ⟨hb, fun H1 S1 => ?_⟩⟩
      refine ⟨true, (by walk_at "exm"), fun _ ea1 nea1 => ?_, fun q => nomatch q⟩
      with_reducible refine Rd.asg ?_
      refine Rd.callE (by walk_at "vr") (fun oe1 hz1 hf1 => ?_)
      refine ⟨_, _, rfl, hz1, hf1, (by walk_at "due"), fun H2 S2 => ?_⟩
      with_reducible refine Rd.name ?_
      try dsimp only [Int.reduceToNat, List.set]
      with_reducible refine Rd.ret (Rd.var (by walk_at "vr") ?_)
      exact k _ (by walk_at "frm")
    · skip
      refine ⟨_, (pss_cons (ps_set (i := 3) sc_l_error.nd rfl (Or.inl rfl) pe_non)
      (pss_cons (ps_try_as (i := 4) rfl rfl sc_l_error.nd rfl rfl ⟨by rfl, by decide, .inl T.m_RingError⟩ takes0 (fun W pn xe tk _ => (pss_one (ps_if (pt_cmpR op_eq (pv 0) pe_int (nomark _)) (pss_one ps_never) (pss_one (ps_if (pt_cmpR op_eq (pv 0) pe_int (nomark _)) (pss_one (ps_asg pe_int (SetO.pg_subS (ok_Slotsu__setitemu_ T) (hr.mono (by decide)) T.nq_Slots T.O_Slotsu__setitemu__1 T.b_Slotsu__setitemu_ (fun σ => passAt tk σ) (pv 1) (pv 2)))) (pss_one ps_never)))))) (fun ea oe cls d pn hz hf => (pss_one (ps_set (i := 3) sc_l_error.nd rfl (Or.inl rfl) (Er.pe_callE (P := P) (w := w) (K := K) (mg := mg) (base := base) (i := 4) rfl rfl rfl rfl rfl (ok_l_kind T) hz hf List.mem_cons_self (Er.roomS (hr.mono (by decide))) (by rfl) T.m_l_kind T.F_l_kind.kp T.b_l_kind rfl (by first | exact Or.inl rfl | exact Or.inr (Or.inl rfl) | exact Or.inr (Or.inr rfl)))))))
      (pss_one (ps_ret (pv 3))))), ?_⟩
      try dsimp only [L2.cxOf, L2.Cx.nox, L2.Cx.wish]
      try rw [st_l_error]
      with_reducible refine Rd.seq (Rd.asg (Rd.c (Rd.name ?_)))
      try dsimp only [Int.reduceToNat, List.set]
      with_reducible refine Rd.seq ?_
      try dsimp only
      with_reducible refine Rd.ifS (Rd.test (Rd.op (Rd.var (by walk_at "vr") (Rd.c (Rd.eqS (by walk_at "vr") (Rd.bl (Rd.iteF (by walk_at "bF") (Rd.ifS (Rd.test (Rd.op (Rd.var (by walk_at "vr") ?_)))))))))))
      with_reducible refine Rd.c (Rd.eqS (by walk_at "vr") (Rd.bl (Rd.iteT (by walk_at "bT") (Rd.asg (Rd.c (Rd.subS (Rd.var (by walk_at "vr") (Rd.var (by walk_at "vr") ?_))))))))
      refine ⟨_, _, _, rfl, (by walk_at "hp"), ?_⟩
      refine ⟨_, _, _, _, _, _, rfl, (by walk_at "hp"), (by walk_at "hp"), .inr ⟨hb, fun H1 S1 => ?_⟩⟩
      refine ⟨true, (by walk_at "exm"), fun _ ea1 nea1 => ?_, fun q => nomatch q⟩
      with_reducible refine Rd.asg ?_
      refine Rd.callE (by walk_at "vr") (fun oe1 hz1 hf1 => ?_)
      refine ⟨_, _, rfl, hz1, hf1, (by walk_at "due"), fun H2 S2 => ?_⟩
      with_reducible refine Rd.name ?_
      try dsimp only [Int.reduceToNat, List.set]
      with_reducible refine Rd.ret (Rd.var (by walk_at "vr") ?_)
      exact k _ (by walk_at "frm")
    · skip
      refine ⟨_, (pss_cons (ps_set (i := 3) sc_l_error.nd rfl (Or.inl rfl) pe_non)
      (pss_cons (ps_try_as (i := 4) rfl rfl sc_l_error.nd rfl rfl ⟨by rfl, by decide, .inl T.m_RingError⟩ takes0 (fun W pn xe tk _ => (pss_one (ps_if (pt_cmpR op_eq (pv 0) pe_int (nomark _)) (pss_one ps_never) (pss_one (ps_if (pt_cmpR op_eq (pv 0) pe_int (nomark _)) (pss_one ps_never) (pss_one (ps_expr (TrM.pe_makeS T.K_Slots (ok_Slotsu__initu_ T) (hr.mono (by decide)) (by rfl) T.m_Slots T.b_Slotsu__initu_ .nil (fun σ => passAt tk σ) (pa_cons (pv 2) pa_nil))))))))) (fun ea oe cls d pn hz hf => (pss_one (ps_set (i := 3) sc_l_error.nd rfl (Or.inl rfl) (Er.pe_callE (P := P) (w := w) (K := K) (mg := mg) (base := base) (i := 4) rfl rfl rfl rfl rfl (ok_l_kind T) hz hf List.mem_cons_self (Er.roomS (hr.mono (by decide))) (by rfl) T.m_l_kind T.F_l_kind.kp T.b_l_kind rfl (by first | exact Or.inl rfl | exact Or.inr (Or.inl rfl) | exact Or.inr (Or.inr rfl)))))))
      (pss_one (ps_ret (pv 3))))), ?_⟩
      try dsimp only [L2.cxOf, L2.Cx.nox, L2.Cx.wish]
      try rw [st_l_error]
      with_reducible refine Rd.seq (Rd.asg (Rd.c (Rd.name ?_)))
      try dsimp only [Int.reduceToNat, List.set]
      with_reducible refine Rd.seq ?_
      try dsimp only
      with_reducible refine Rd.ifS (Rd.test (Rd.op (Rd.var (by walk_at "vr") (Rd.c (Rd.eqS (by walk_at "vr") (Rd.bl (Rd.iteF (by walk_at "bF") (Rd.ifS (Rd.test (Rd.op (Rd.var (by walk_at "vr") ?_)))))))))))
      with_reducible refine Rd.c (Rd.eqS (by walk_at "vr") (Rd.bl (Rd.iteF (by walk_at "bF") (Rd.drop (Rd.mkS (Rd.cons (Rd.var (by walk_at "vr") (Rd.nil ?_))))))))
      intro x1 dx1 nx1 ndx1 ne1
      refine ⟨_, _, _, rfl, L2.upd_same, .inr ⟨hb.same (by walk_at "frm"), fun H1 S1 => ?_⟩⟩
      refine ⟨true, (by walk_at "exm"), fun _ ea1 nea1 => ?_, fun q => nomatch q⟩
      with_reducible refine Rd.asg ?_
      refine Rd.callE (by walk_at "vr") (fun oe1 hz1 hf1 => ?_)
      refine ⟨_, _, rfl, hz1, hf1, (by walk_at "due"), fun H2 S2 => ?_⟩
      with_reducible refine Rd.name ?_
      try dsimp only [Int.reduceToNat, List.set]
      with_reducible refine Rd.ret (Rd.var (by walk_at "vr") ?_)
      exact k _ (by walk_at "frm")
/-! _law_read -/
theorem sc_l_read : FnScope ["_law_slots", "_law_places", "_law_at"] ["_law_slots", "_law_places"] (defScope s_l_read) := ⟨rfl, rfl, rfl, by decide +kernel, rfl, by decide +kernel, by decide +kernel⟩
theorem st_l_read {v0 v1 : V} : L2.start ["_law_slots", "_law_places", "_law_at"] [v0, v1] = [some v0, some v1, none] := rfl
abbrev sp_l_read (K : PySem.W.Frag) (A : Adr) : Sp := fun vs H Q _ => ∃ (p dx l a : Addr) (os : List (Option Int)) (ns : List Int), vs = [.ref p, .ref a] ∧ H p = some (.ins A.c_Slots dx (fS l)) ∧ H l = some (.lst (os.map Rd.ov)) ∧ H a = some (.lst (ns.map V.int)) ∧ ns.length ≤ 100 ∧ (∀ x ∈ ns, 0 ≤ x ∧ x < (os.length : Int)) ∧ ∀ (q : Addr) (H' : Hp), Same H H' → H q = none → H' q = some (.lst ((ns.map (rd os)).map Rd.ov)) → Q (.ref q) H'
theorem ok_l_read (T : Txt w K mg A) : FnOk P w K mg base CX0 6 A.f_l_read A.d_l_read ["_law_slots", "_law_places"] (sp_l_read K A) := by
  refine T.F_l_read.ok sc_l_read (fun vs H Q E h => ?_) (fun cdv Ar outer s H vs Q E hr h => ?_)
  · obtain ⟨p, dx, l, a, os, ns, rfl, hp, hl, ha, nl, hm, k⟩ := h
    rfl
  · obtain ⟨p, dx, l, a, os, ns, rfl, hp, hl, ha, nl, hm, k⟩ := h
    have hu := hu_of hr
    have t_kt_NoSize_in_NoForm := T.kt_NoSize_in_NoForm
    have t_kt_NoSize_in_NoCounter := T.kt_NoSize_in_NoCounter
    have t_kt_NoSize_in_NoScheme := T.kt_NoSize_in_NoScheme
    have t_kt_NoSize_in_NoSize := T.kt_NoSize_in_NoSize
    have t_kt_NoSize_in_NoRing := T.kt_NoSize_in_NoRing
    have t_kt_NoSize_in_Outside := T.kt_NoSize_in_Outside
    have t_kt_NoSize_in_NoRun := T.kt_NoSize_in_NoRun
    have t_kt_NoSize_in_NoSet := T.kt_NoSize_in_NoSet
    have t_kt_NoSize_in_TooLong := T.kt_NoSize_in_TooLong
    have t_kt_NoSize_in_VE := T.kt_NoSize_in_VE
    have t_xm_NoSize := T.xm_NoSize
    have t_kt_Outside_in_NoForm := T.kt_Outside_in_NoForm
    have t_kt_Outside_in_NoCounter := T.kt_Outside_in_NoCounter
    have t_kt_Outside_in_NoScheme := T.kt_Outside_in_NoScheme
    have t_kt_Outside_in_NoSize := T.kt_Outside_in_NoSize
    have t_kt_Outside_in_NoRing := T.kt_Outside_in_NoRing
    have t_kt_Outside_in_Outside := T.kt_Outside_in_Outside
    have t_kt_Outside_in_NoRun := T.kt_Outside_in_NoRun
    have t_kt_Outside_in_NoSet := T.kt_Outside_in_NoSet
    have t_kt_Outside_in_TooLong := T.kt_Outside_in_TooLong
    have t_kt_Outside_in_VE := T.kt_Outside_in_VE
    have t_xm_Outside := T.xm_Outside
    have t_k_Slots := T.k_Slots
    refine ⟨_, (pss_one (ps_ret (pe_lc (own := [("_law_at", 2)]) (g := gName 2) rfl sc_l_read.nd (pi_list (pv 1)) (blkOk_by (own := [("_law_at", 2)]) (N := ["_law_slots", "_law_places", "_law_at"]) (sc := defScope s_l_read) (by decide +kernel)) (fun _ _ _ _ _ => (pg_name (i := 2) sc_l_read.nd rfl (Or.inl rfl))) (fun _ _ _ _ _ => pts_nil) (fun _ _ _ _ _ => (Own.pe_item (ok_Slotsu__getitemu_ T) (hr.mono (by decide)) T.O_Slotsu__getitemu__1 T.fi_Slotsu__getitemu_ T.b_Slotsu__getitemu_ Sta.passF (pv 0) (pv 2)))))), ?_⟩
    try dsimp only [L2.cxOf, L2.Cx.nox, L2.Cx.wish]
    try rw [st_l_read]
    with_reducible refine Rd.ret (Rd.lc (Rd.il (Rd.var (by walk_at "vr") ?_)))
    refine ⟨_, rfl, ⟨_, (by walk_at "hpl")⟩, ?_⟩
    intro D0 nD0
    refine' lc_list (fun i H' => Same H H' ∧ H' D0 = some (.lst (((ns.take i).map (rd os)).map Rd.ov))) (⟨by walk_at "frm", L2.upd_same⟩) (fun i H' _ p => Same.seq p.1 (.of ha)) (fun i x H' hx p => ?lct0_u8) (fun H' p => ?lcd0_u8)
    case lct0_u8 =>
      obtain ⟨S9, hD⟩ := p
      rw [List.getElem?_map] at hx
      obtain ⟨z, hz, rfl⟩ := Option.map_eq_some_iff.mp hx
      obtain ⟨b0, b1⟩ := hm z (List.mem_of_getElem? hz)
      have al9 : (((ns.take i).map (rd os)).map Rd.ov).length ≤ 100 := by rw [List.length_map, List.length_map]; exact Nat.le_trans (List.length_take_le' i ns) nl
      with_reducible refine Rd.name ?_
      refine ⟨rfl, ?_⟩
      refine Rd.yes (Rd.iteT rfl ?_)
      with_reducible refine Rd.op (Rd.var (by walk_at "vr") (Rd.var (by walk_at "vr") ?_))
      refine ⟨_, _, _, rfl, (by walk_at "hp"), ?_⟩
      refine ⟨_, _, _, _, _, rfl, (by walk_at "hp"), (by walk_at "hp"), .inl ⟨_, rfl, (by omega), (by omega), ?_⟩⟩
      refine ⟨_, (by walk_at "hp"), (by walk_at "sz"), ?_⟩
      refine ⟨by walk_at "frm", ?_⟩
      rw [List.take_add_one, hz, List.map_append, List.map_append]
      exact L2.upd_same
    obtain ⟨S9, hD9⟩ := p
    rw [List.length_map, List.take_length] at hD9
    exact k _ _ S9 (by walk_at "nn") hD9
/-! law -/
theorem sc_law : FnScope ["_law_script", "_law_turn", "_law_source_here", "_law_n", "_law_slots", "_law_beside", "_law_k", "_law_places", "_law_kept", "_law_at", "_law_odd", "_law_wrong"] ["_law_script"] (defScope s_law) := ⟨rfl, rfl, rfl, by decide +kernel, rfl, by decide +kernel, by decide +kernel⟩
theorem st_law {v0 : V} : L2.start ["_law_script", "_law_turn", "_law_source_here", "_law_n", "_law_slots", "_law_beside", "_law_k", "_law_places", "_law_kept", "_law_at", "_law_odd", "_law_wrong"] [v0] = [some v0, none, none, none, none, none, none, none, none, none, none, none] := rfl
abbrev sp_law (K : PySem.W.Frag) : Sp := fun vs H Q _ => ∃ (a : Addr) (ns : List Int), vs = [.ref a] ∧ SqL K H a (ns.map V.int) ∧ ns.length ≤ 63 ∧ ∀ H', Q (.bl true) H'
theorem ok_law (T : Txt w K mg A) : FnOk P w K mg base CX0 7 A.f_law A.d_law ["_law_script"] (sp_law K) := by
  refine T.F_law.ok sc_law (fun vs H Q E h => ?_) (fun cdv Ar outer s H vs Q E hr h => ?_)
  · obtain ⟨a, ns, rfl, hS, hlen, k⟩ := h
    rfl
  · obtain ⟨a, ns, rfl, hS, hlen, k⟩ := h
    have hu := hu_of hr
    have t_kt_NoSize_in_NoForm := T.kt_NoSize_in_NoForm
    have t_kt_NoSize_in_NoCounter := T.kt_NoSize_in_NoCounter
    have t_kt_NoSize_in_NoScheme := T.kt_NoSize_in_NoScheme
    have t_kt_NoSize_in_NoSize := T.kt_NoSize_in_NoSize
    have t_kt_NoSize_in_NoRing := T.kt_NoSize_in_NoRing
    have t_kt_NoSize_in_Outside := T.kt_NoSize_in_Outside
    have t_kt_NoSize_in_NoRun := T.kt_NoSize_in_NoRun
    have t_kt_NoSize_in_NoSet := T.kt_NoSize_in_NoSet
    have t_kt_NoSize_in_TooLong := T.kt_NoSize_in_TooLong
    have t_kt_NoSize_in_VE := T.kt_NoSize_in_VE
    have t_xm_NoSize := T.xm_NoSize
    have t_kt_Outside_in_NoForm := T.kt_Outside_in_NoForm
    have t_kt_Outside_in_NoCounter := T.kt_Outside_in_NoCounter
    have t_kt_Outside_in_NoScheme := T.kt_Outside_in_NoScheme
    have t_kt_Outside_in_NoSize := T.kt_Outside_in_NoSize
    have t_kt_Outside_in_NoRing := T.kt_Outside_in_NoRing
    have t_kt_Outside_in_Outside := T.kt_Outside_in_Outside
    have t_kt_Outside_in_NoRun := T.kt_Outside_in_NoRun
    have t_kt_Outside_in_NoSet := T.kt_Outside_in_NoSet
    have t_kt_Outside_in_TooLong := T.kt_Outside_in_TooLong
    have t_kt_Outside_in_VE := T.kt_Outside_in_VE
    have t_xm_Outside := T.xm_Outside
    have t_k_Slots := T.k_Slots
    have e4 : (10 : Int) ^ Int.toNat 4 = 10000 := by decide +kernel
    have e30 : (10 : Int) ^ Int.toNat 30 = 1000000000000000000000000000000 := by decide +kernel
    refine ⟨_, (pss_cons (ps_for PassesOwn.never rfl (pi_range1 (by rfl) T.n_range (pa_cons (pe_callB (call_max2 rfl) (by rfl) T.n_max (by decide +kernel) (pa_cons pe_int (pa_cons (pe_callB (call_min2 rfl) (by rfl) T.n_min (by decide +kernel) (pa_cons (pe_callB call_len_seq (by rfl) T.n_len PySem.boot_len (pa_cons (pv 0) pa_nil)) (pa_cons pe_int pa_nil))) pa_nil))) pa_nil)) (pg_name (i := 1) sc_law.nd rfl (Or.inl rfl)) (pss_cons (ps_set (i := 2) sc_law.nd rfl (Or.inr rfl) (pe_call (ok_l_source T) (hr.mono (by decide)) (by rfl) T.m_l_source T.F_l_source.kp T.b_l_source .nil pass0 (pa_cons (pv 0) (pa_cons (pv 1) pa_nil))))
      (pss_cons (ps_set (i := 3) sc_law.nd rfl (Or.inr rfl) (pe_op op_add pe_int (pe_call (ok_l_draw T) (hr.mono (by decide)) (by rfl) T.m_l_draw T.F_l_draw.kp T.b_l_draw .nil pass0 (pa_cons (pv 2) (pa_cons (pe_ix (Rd.ixLK rfl) (pe_lst (pa_cons pe_int (pa_cons pe_int (pa_cons (pe_op op_pow pe_int pe_int) pa_nil)))) (pe_call (ok_l_draw T) (hr.mono (by decide)) (by rfl) T.m_l_draw T.F_l_draw.kp T.b_l_draw .nil pass0 (pa_cons (pv 2) (pa_cons pe_int pa_nil))) (fun _ _ => rfl)) pa_nil)))))
      (pss_cons (ps_par (by rfl) sc_law.nd (i := 4) (j := 5) rfl rfl (by decide) rfl rfl (pa_cons (pe_make T.K_Slots (ok_Slotsu__initu_ T) (hr.mono (by decide)) (by rfl) T.m_Slots T.b_Slotsu__initu_ .nil Sta.passF (pa_cons (pv 3) pa_nil)) (pa_cons (pe_make T.K_Slots (ok_Slotsu__initu_ T) (hr.mono (by decide)) (by rfl) T.m_Slots T.b_Slotsu__initu_ .nil Sta.passF (pa_cons (pv 3) pa_nil)) pa_nil)) (by rfl))
      (pss_cons (ps_set (i := 7) sc_law.nd rfl (Or.inl rfl) (pe_op op_cat (pe_lst (pa_cons pe_int (pa_cons (pe_op op_sub (pv 3) pe_int) pa_nil))) (pe_lc (own := [("_law_k", 6)]) (g := gName 6) rfl sc_law.nd (pi_range1 (by rfl) T.n_range (pa_cons pe_int pa_nil)) (blkOk_by (own := [("_law_k", 6)]) (N := ["_law_script", "_law_turn", "_law_source_here", "_law_n", "_law_slots", "_law_beside", "_law_k", "_law_places", "_law_kept", "_law_at", "_law_odd", "_law_wrong"]) (sc := defScope s_law) (by decide +kernel)) (fun _ _ _ _ _ => (pg_name (i := 6) sc_law.nd rfl (Or.inl rfl))) (fun _ _ _ _ _ => pts_nil) (fun _ _ _ _ _ => (pe_call (ok_l_draw T) (hr.mono (by decide)) (by rfl) T.m_l_draw T.F_l_draw.kp T.b_l_draw .nil pass0 (pa_cons (pv 2) (pa_cons (pv 3) pa_nil)))))))
      (pss_cons (ps_if (PW.pt (pw_or (pt_cmpR (op_neD hr.units) (pe_call (ok_l_read T) (hr.mono (by decide)) (by rfl) T.m_l_read T.F_l_read.kp T.b_l_read .nil pass0 (pa_cons (pv 4) (pa_cons (pv 7) pa_nil))) (pe_op op_rep (pe_lst (pa_cons pe_non pa_nil)) pe_int) (nomark _)) (pw_or1 (pt_cmpR op_ne (pe_callB (Own.len (ok_Slotsu__lenu_ T) (hr.mono (by decide)) T.O_Slotsu__lenu__1 T.b_Slotsu__lenu_ pass0) (by rfl) T.n_len PySem.boot_len (pa_cons (pv 4) pa_nil)) (pv 3) (nomark _))))) (pss_one ps_never) pss_nil)
      (pss_cons (ps_set (i := 8) sc_law.nd rfl (Or.inr rfl) pe_dnewK)
      (pss_cons (ps_for PassesOwn.never rfl (pi_range1 (by rfl) T.n_range (pa_cons (pe_call (ok_l_draw T) (hr.mono (by decide)) (by rfl) T.m_l_draw T.F_l_draw.kp T.b_l_draw .nil pass0 (pa_cons (pv 2) (pa_cons pe_int pa_nil))) pa_nil)) (pg_name (i := 6) sc_law.nd rfl (Or.inl rfl)) (pss_cons (ps_set (i := 9) sc_law.nd rfl (Or.inl rfl) (pe_call (ok_l_pick T) (hr.mono (by decide)) (by rfl) T.m_l_pick T.F_l_pick.kp T.b_l_pick .nil pass0 (pa_cons (pv 2) (pa_cons (pv 7) pa_nil))))
      (pss_cons (ps_asg (pe_op op_sub (pe_call (ok_l_draw T) (hr.mono (by decide)) (by rfl) T.m_l_draw T.F_l_draw.kp T.b_l_draw .nil pass0 (pa_cons (pv 2) (pa_cons (pe_op op_pow pe_int pe_int) pa_nil))) pe_int) (pg_sub (pv 8) (pv 9) (set_dict hu)))
      (pss_one (ps_expr (pe_call (ok_l_lay T) (hr.mono (by decide)) (by rfl) T.m_l_lay T.F_l_lay.kp T.b_l_lay .nil pass0 (pa_cons (pv 4) (pa_cons (pv 9) (pa_cons (pe_dget hu (pv 8) (pv 9) (fun _ _ => rfl)) pa_nil)))))))))
      (pss_cons (ps_if (pt_cmpR (op_neD hr.units) (pe_call (ok_l_read T) (hr.mono (by decide)) (by rfl) T.m_l_read T.F_l_read.kp T.b_l_read .nil pass0 (pa_cons (pv 4) (pa_cons (pv 7) pa_nil))) (pe_lc (own := [("_law_at", 9)]) (g := gName 9) rfl sc_law.nd (pi_list (pv 7)) (blkOk_by (own := [("_law_at", 9)]) (N := ["_law_script", "_law_turn", "_law_source_here", "_law_n", "_law_slots", "_law_beside", "_law_k", "_law_places", "_law_kept", "_law_at", "_law_odd", "_law_wrong"]) (sc := defScope s_law) (by decide +kernel)) (fun _ _ _ _ _ => (pg_name (i := 9) sc_law.nd rfl (Or.inl rfl))) (fun _ _ _ _ _ => pts_nil) (fun _ _ _ _ _ => (pe_dget2 hu (pv 8) (pv 9) pe_non ⟨by rfl, by rfl, by rfl, by rfl⟩))) (nomark _)) (pss_one ps_never) pss_nil)
      (pss_cons (ps_set (i := 10) sc_law.nd rfl (Or.inl rfl) (pe_call (ok_l_pick T) (hr.mono (by decide)) (by rfl) T.m_l_pick T.F_l_pick.kp T.b_l_pick .nil pass0 (pa_cons (pv 2) (pa_cons (pe_lst (pa_cons (pe_un un_neg pe_int) (pa_cons (pv 3) (pa_cons (pe_op op_add (pv 3) (pe_call (ok_l_draw T) (hr.mono (by decide)) (by rfl) T.m_l_draw T.F_l_draw.kp T.b_l_draw .nil pass0 (pa_cons (pv 2) (pa_cons (pe_op op_pow pe_int pe_int) pa_nil)))) (pa_cons pe_non (pa_cons pe_bl (pa_cons pe_str (pa_cons (pe_tup (pa_cons pe_int pa_nil)) (pa_cons (pe_lst (pa_cons pe_int pa_nil)) (pa_cons (pe_op op_sub pe_int (pv 3)) pa_nil)))))))))) pa_nil))))
      (pss_cons (ps_if (PW.pt (pw_or (pt_cmpR op_ne (pe_call (ok_l_error T) (hr.mono (by decide)) (by rfl) T.m_l_error T.F_l_error.kp T.b_l_error .nil pass0 (pa_cons pe_int (pa_cons (pv 4) (pa_cons (pv 10) pa_nil)))) pe_str (nomark _)) (pw_or1 (pt_cmpR op_ne (pe_call (ok_l_error T) (hr.mono (by decide)) (by rfl) T.m_l_error T.F_l_error.kp T.b_l_error .nil pass0 (pa_cons pe_int (pa_cons (pv 4) (pa_cons (pv 10) pa_nil)))) pe_str (nomark _))))) (pss_one ps_never) pss_nil)
      (pss_cons (ps_set (i := 11) sc_law.nd rfl (Or.inl rfl) (pe_call (ok_l_pick T) (hr.mono (by decide)) (by rfl) T.m_l_pick T.F_l_pick.kp T.b_l_pick .nil pass0 (pa_cons (pv 2) (pa_cons (pe_lst (pa_cons pe_int (pa_cons (pe_un un_neg pe_int) (pa_cons (pe_op op_add (pe_op op_pow pe_int pe_int) pe_int) (pa_cons (pe_op op_pow pe_int pe_int) (pa_cons pe_non (pa_cons pe_bl (pa_cons pe_str (pa_cons (pe_lst (pa_cons pe_int pa_nil)) (pa_cons (pe_tup (pa_cons pe_int pa_nil)) pa_nil)))))))))) pa_nil))))
      (pss_cons (ps_if (pt_cmpR op_ne (pe_call (ok_l_error T) (hr.mono (by decide)) (by rfl) T.m_l_error T.F_l_error.kp T.b_l_error .nil pass0 (pa_cons pe_int (pa_cons (pv 4) (pa_cons (pv 11) pa_nil)))) pe_str (nomark _)) (pss_one ps_never) pss_nil)
      (pss_cons (ps_if (pt_cmpR (op_neD hr.units) (pe_call (ok_l_read T) (hr.mono (by decide)) (by rfl) T.m_l_read T.F_l_read.kp T.b_l_read .nil pass0 (pa_cons (pv 4) (pa_cons (pv 7) pa_nil))) (pe_lc (own := [("_law_at", 9)]) (g := gName 9) rfl sc_law.nd (pi_list (pv 7)) (blkOk_by (own := [("_law_at", 9)]) (N := ["_law_script", "_law_turn", "_law_source_here", "_law_n", "_law_slots", "_law_beside", "_law_k", "_law_places", "_law_kept", "_law_at", "_law_odd", "_law_wrong"]) (sc := defScope s_law) (by decide +kernel)) (fun _ _ _ _ _ => (pg_name (i := 9) sc_law.nd rfl (Or.inl rfl))) (fun _ _ _ _ _ => pts_nil) (fun _ _ _ _ _ => (pe_dget2 hu (pv 8) (pv 9) pe_non ⟨by rfl, by rfl, by rfl, by rfl⟩))) (nomark _)) (pss_one ps_never) pss_nil)
      (pss_cons (ps_if (pt_cmpR op_ne (pe_callB (Own.len (ok_Slotsu__lenu_ T) (hr.mono (by decide)) T.O_Slotsu__lenu__1 T.b_Slotsu__lenu_ pass0) (by rfl) T.n_len PySem.boot_len (pa_cons (pv 4) pa_nil)) (pv 3) (nomark _)) (pss_one ps_never) pss_nil)
      (pss_one (ps_if (pt_cmpR (op_neD hr.units) (pe_call (ok_l_read T) (hr.mono (by decide)) (by rfl) T.m_l_read T.F_l_read.kp T.b_l_read .nil pass0 (pa_cons (pv 5) (pa_cons (pv 7) pa_nil))) (pe_op op_rep (pe_lst (pa_cons pe_non pa_nil)) pe_int) (nomark _)) (pss_one ps_never) pss_nil)))))))))))))))))
      (pss_one (ps_ret pe_bl))), ?_⟩
    try dsimp only [L2.cxOf, L2.Cx.nox, L2.Cx.wish]
    try rw [st_law]
    with_reducible refine Rd.seq (Rd.fr (Rd.rng1 (Rd.cons (Rd.cB (Rd.cons (Rd.c (Rd.cons (Rd.cB (Rd.cons (Rd.cB (Rd.cons ?_)))))))))))
    with_reducible refine Rd.var (by walk_at "vr") (Rd.nil (⟨_, _, rfl, (by walk_at "hpq"), (Rd.cons (Rd.c (Rd.nil (⟨_, _, rfl, (Rd.nil (⟨_, _, rfl, (Rd.nil (⟨_, rfl, (by walk_at "sc"), (by walk_at "sc"), ?_⟩))⟩))⟩))))⟩))
    refine for_range (lo := 0) (fun (_ : Nat) (σ : L2.St) (H' : Hp) => ∃ (v_turn v_source_here v_n v_slots v_beside v_k v_places v_kept v_at v_odd v_wrong : Option V), σ = [some (.ref a), v_turn, v_source_here, v_n, v_slots, v_beside, v_k, v_places, v_kept, v_at, v_odd, v_wrong] ∧ Same H H') ⟨_, _, _, _, _, _, _, _, _, _, _, rfl, Same.refl _⟩ (fun i σ H0 hi ⟨v_turn, v_source_here, v_n, v_slots, v_beside, v_k, v_places, v_kept, v_at, v_odd, v_wrong, es, S0⟩ => ?_) (fun σ H0 ⟨v_turn, v_source_here, v_n, v_slots, v_beside, v_k, v_places, v_kept, v_at, v_odd, v_wrong, es, S0⟩ => ?_)
    · subst es
      have hS0 := Same.seq S0 hS
      with_reducible refine Rd.name (Rd.seq (Rd.asg (Rd.call (Rd.cons (Rd.var (by walk_at "vr") (Rd.cons (Rd.var (by walk_at "vr") (Rd.nil ?_))))))))
      refine ⟨_, _, _, rfl, (by walk_at "hpl"), (by walk_at "sc"), (by walk_at "sc"), fun src1 o1 src1n s1 => ?_⟩
      with_reducible refine Rd.name ?_
      try dsimp only [Int.reduceToNat, List.set]
      with_reducible refine Rd.seq (Rd.asg (Rd.op (Rd.c (Rd.call (Rd.cons (Rd.var (by walk_at "vr") (Rd.cons (Rd.op (Rd.lst (Rd.cons (Rd.c ?_)))))))))))
      with_reducible refine Rd.cons (Rd.c (Rd.cons (Rd.op (Rd.c (Rd.c (Rd.iC (by walk_at "scp") (Rd.nil (Rd.laid (by walk_at "ll") ?_))))))))
      intro p0 np0
      with_reducible refine Rd.call (Rd.cons (Rd.var (by walk_at "vr") (Rd.cons (Rd.c (Rd.nil ?_)))))
      refine ⟨_, _, _, rfl, (by walk_at "hp"), (by walk_at "sc"), (by walk_at "sc"), (by walk_at "sc"), fun d2 o2 d2a d2b s2 => ?_⟩
      refine Rd.pick (ns := [12, 12, 10000]) (lo := 12) (hi := 10000) (by decide) (by walk_at "hpl") (by walk_at "vr") (by walk_at "sc") (by show (_ : Int) < 3; walk_at "sc") (fun n_0 m_0 na_0 nb_0 => ?_)
      with_reducible refine Rd.nil ?_
      refine ⟨_, _, _, rfl, (by walk_at "hp"), (by walk_at "sc"), (by first | omega | decide), (by first | omega | decide), fun dN oN dNa dNb soN => ?_⟩
      with_reducible refine Rd.i0 (Rd.name ?_)
      try dsimp only [Int.reduceToNat, List.set]
      with_reducible refine Rd.seq (Rd.par (Rd.cons (Rd.make (Rd.cons (Rd.var (by walk_at "vr") (Rd.nil ?_))))))
      intro x4 dx4 nx4 ndx4 ne4
      refine ⟨_, _, _, rfl, L2.upd_same, .inl ⟨_, rfl, (by omega), (by omega), fun l4 H4 F4 nl4 rp4 rl4 => ⟨rfl, ?_⟩⟩⟩
      with_reducible refine Rd.cons (Rd.make (Rd.cons (Rd.var (by walk_at "vr") (Rd.nil ?_))))
      intro x5 dx5 nx5 ndx5 ne5
      refine ⟨_, _, _, rfl, L2.upd_same, .inl ⟨_, rfl, (by omega), (by omega), fun l5 H5 F5 nl5 rp5 rl5 => ⟨rfl, ?_⟩⟩⟩
      with_reducible refine Rd.nil (⟨_, _, rfl, ?_⟩)
      obtain ⟨n9, en9, n91, n92⟩ : ∃ n9 : Int, n9 = 1 + dN ∧ 1 ≤ n9 ∧ n9 ≤ 10000 := ⟨_, rfl, by omega, by omega⟩
      rw [← en9] at rl4 rl5 ⊢
      have src0 : H src1 = none := by walk_at "nn"
      have x4H : H x4 = none := by walk_at "nn"
      have l4H : H l4 = none := by walk_at "nn"
      have x5H : H x5 = none := by walk_at "nn"
      have l5H : H l5 = none := by walk_at "nn"
      have d1 : x4 ≠ src1 := ne_none' nx4 (by walk_at "hp")
      have d2 : l4 ≠ src1 := ne_none' nl4 (by walk_at "hp")
      have d3 : l4 ≠ x4 := ne_none' nl4 (by walk_at "hp")
      have d4 : x5 ≠ src1 := ne_none' nx5 (by walk_at "hp")
      have d5 : x5 ≠ x4 := ne_none' nx5 (by walk_at "hp")
      have d6 : x5 ≠ l4 := ne_none' nx5 (by walk_at "hp")
      have d7 : l5 ≠ src1 := ne_none' nl5 (by walk_at "hp")
      have d8 : l5 ≠ x4 := ne_none' nl5 (by walk_at "hp")
      have d9 : l5 ≠ l4 := ne_none' nl5 (by walk_at "hp")
      have d10 : l5 ≠ x5 := ne_none' nl5 (by walk_at "hp")
      refine Rd.comp (fun H' => Same H H' ∧ H' src1 = some oN ∧ SrcO oN ∧ H' x4 = some (.ins A.c_Slots dx4 (fS l4)) ∧ H' l4 = some (.lst ((List.replicate n9.toNat (none : Option Int)).map Rd.ov)) ∧ H' x5 = some (.ins A.c_Slots dx5 (fS l5)) ∧ H' l5 = some (.lst ((List.replicate n9.toNat none).map Rd.ov))) ⟨by walk_at "frm", made_get F5 nx5 ndx5 (made_get F4 nx4 ndx4 (by walk_at "hp")), soN, made_get F5 nx5 ndx5 rp4, made_get F5 nx5 ndx5 rl4, rp5, rl5⟩ (fun Hy ⟨Sy, hsy, soy, a1, a2, a3, a4⟩ => ?_)
      with_reducible refine Rd.seq (Rd.asg (Rd.op (Rd.lst (Rd.cons (Rd.c (Rd.cons (Rd.op (Rd.var (by walk_at "vr") (Rd.c (Rd.i0 (Rd.nil ?_)))))))))))
      with_reducible refine Rd.laid (by walk_at "ll") ?_
      intro p2 np2
      with_reducible refine Rd.lc (Rd.rng1 (Rd.cons (Rd.c (Rd.nil (⟨_, rfl, (by walk_at "sc"), (by walk_at "sc"), ?_⟩)))))
      intro D3 nD3
      have Ds : D3 ≠ src1 := ne_none' nD3 (by walk_at "hp")
      have D1_ : D3 ≠ x4 := ne_none' nD3 (by walk_at "hp")
      have D2_ : D3 ≠ l4 := ne_none' nD3 (by walk_at "hp")
      have D3_ : D3 ≠ x5 := ne_none' nD3 (by walk_at "hp")
      have D4_ : D3 ≠ l5 := ne_none' nD3 (by walk_at "hp")
      have D5_ : D3 ≠ p2 := ne_none' nD3 (by walk_at "hp")
      have p1_ : p2 ≠ src1 := ne_none' np2 (by walk_at "hp")
      have p2_ : p2 ≠ x4 := ne_none' np2 (by walk_at "hp")
      have p3_ : p2 ≠ l4 := ne_none' np2 (by walk_at "hp")
      have p4_ : p2 ≠ x5 := ne_none' np2 (by walk_at "hp")
      have p5_ : p2 ≠ l5 := ne_none' np2 (by walk_at "hp")
      have DH : H D3 = none := by walk_at "nn"
      refine' lc_range (lo := 0) (fun i H' => ∃ (oo : HO) (acc : List Int), Same H H' ∧ H' src1 = some oo ∧ SrcO oo ∧ H' x4 = some (.ins A.c_Slots dx4 (fS l4)) ∧ H' l4 = some (.lst ((List.replicate n9.toNat (none : Option Int)).map Rd.ov)) ∧ H' x5 = some (.ins A.c_Slots dx5 (fS l5)) ∧ H' l5 = some (.lst ((List.replicate n9.toNat none).map Rd.ov)) ∧ H' p2 = some (.lst [.int 0, .int (n9 - 1)]) ∧ H' D3 = some (.lst (acc.map V.int)) ∧ acc.length = i ∧ ∀ x ∈ acc, 0 ≤ x ∧ x < n9) (⟨_, [], (by walk_at "frm"), (by walk_at "hp"), soy, (by walk_at "hp"), (by walk_at "hp"), (by walk_at "hp"), (by walk_at "hp"), (by walk_at "hp"), L2.upd_same, rfl, fun x h => by cases h⟩) (fun i H' hi p => ?lct3_u9) (fun H' p => ?lcd3_u9)
      case lct3_u9 =>
        obtain ⟨oo, acc, S8, h1, h2, b1, b2, b3, b4, b5, hD, hl8, hm8⟩ := p
        have al9 : (acc.map V.int).length ≤ 100 := by rw [List.length_map]; omega
        with_reducible refine Rd.name ?_
        refine ⟨rfl, ?_⟩
        refine Rd.yes (Rd.iteT rfl ?_)
        with_reducible refine Rd.call (Rd.cons (Rd.var (by walk_at "vr") (Rd.cons (Rd.var (by walk_at "vr") (Rd.nil ?_)))))
        refine ⟨_, _, _, rfl, (by walk_at "hp"), (by walk_at "sc"), (by first | omega | decide), (by first | omega | decide), fun dQ oQ dQa dQb soQ => ?_⟩
        refine ⟨_, (by walk_at "hp"), (by walk_at "sz"), ?_⟩
        refine ⟨_, acc ++ [dQ], (by walk_at "frm"), (by walk_at "hp"), soQ, (by walk_at "hp"), (by walk_at "hp"), (by walk_at "hp"), (by walk_at "hp"), (by walk_at "hp"), (by rw [← Rd.mapAppL]; exact L2.upd_same), (by rw [List.length_append, hl8]; rfl), snoc_in hm8 dQa dQb⟩
      obtain ⟨oo8, acc8, S8, h1, h2, b1, b2, b3, b4, b5, hD8, hl8, hm8⟩ := p
      with_reducible refine Rd.catL (by walk_at "hp") (by walk_at "hp") (by walk_at "ll") ?_
      intro c1 nc1
      have e10 : [V.int 0, V.int (n9 - 1)] ++ acc8.map V.int = ((0 : Int) :: (n9 - 1) :: acc8).map V.int := rfl
      rw [e10]
      clear e10
      with_reducible refine Rd.name ?_
      try dsimp only [Int.reduceToNat, List.set]
      obtain ⟨ns9, ens9, nl8, hm9⟩ : ∃ ns9 : List Int, ns9 = (0 : Int) :: (n9 - 1) :: acc8 ∧ ns9.length = 8 ∧ ∀ x ∈ ns9, 0 ≤ x ∧ x < n9 := ⟨_, rfl, by simp [hl8], mem8 n91 hm8⟩
      rw [← ens9] at *
      have q1 : c1 ≠ src1 := ne_none' nc1 (by walk_at "hp")
      have q2 : c1 ≠ x4 := ne_none' nc1 (by walk_at "hp")
      have q3 : c1 ≠ l4 := ne_none' nc1 (by walk_at "hp")
      have q4 : c1 ≠ x5 := ne_none' nc1 (by walk_at "hp")
      have q5 : c1 ≠ l5 := ne_none' nc1 (by walk_at "hp")
      have plH : H c1 = none := by walk_at "nn"
      have ln9 : (List.replicate n9.toNat (none : Option Int)).length = n9.toNat := List.length_replicate
      have e8 : ns9.map (rd (List.replicate n9.toNat none)) = List.replicate 8 none := new8 nl8
      refine Rd.comp (fun H' => Same H H' ∧ H' src1 = some oo8 ∧ H' x4 = some (.ins A.c_Slots dx4 (fS l4)) ∧ H' l4 = some (.lst ((List.replicate n9.toNat (none : Option Int)).map Rd.ov)) ∧ H' x5 = some (.ins A.c_Slots dx5 (fS l5)) ∧ H' l5 = some (.lst ((List.replicate n9.toNat none).map Rd.ov)) ∧ H' c1 = some (.lst (ns9.map V.int))) ⟨by walk_at "frm", (by walk_at "hp"), (by walk_at "hp"), (by walk_at "hp"), (by walk_at "hp"), (by walk_at "hp"), (by walk_at "hp")⟩ (fun Hz ⟨Sz, hsz, a1, a2, a3, a4, a5⟩ => ?_)
      with_reducible refine Rd.seq (Rd.ifS (Rd.or (Rd.test (Rd.op (Rd.call (Rd.cons (Rd.var (by walk_at "vr") (Rd.cons (Rd.var (by walk_at "vr") (Rd.nil ?_))))))))))
      refine ⟨_, _, _, _, _, ns9, rfl, (by walk_at "hp"), (by walk_at "hp"), (by walk_at "hp"), (by omega), (fun x hx => by have := hm9 x hx; (try rw [List.length_replicate]); omega), fun qR HR SR nqR hqR => ?_⟩
      with_reducible refine Rd.op (Rd.lst (Rd.cons (Rd.c (Rd.nil (Rd.laid (by walk_at "ll") ?_)))))
      intro p4 np4
      with_reducible refine Rd.c ?_
      refine ⟨_, _, _, rfl, rfl, (by walk_at "hp"), (by walk_at "sc"), (by walk_at "sc"), (by walk_at "rep"), fun c2 nc2 => ?_⟩
      rw [show (List.replicate (8 : Int).toNat [V.non]).flatten = (List.replicate 8 (none : Option Int)).map Rd.ov from rfl]
      refine ⟨_, _, (by walk_at "dp"), (by walk_at "dp"), (by walk_at "shp"), (by walk_at "shp"), ?_⟩
      with_reducible refine Rd.bl (Rd.iteF (by walk_at "bF") (Rd.test (Rd.op (Rd.cB (Rd.cons (Rd.var (by walk_at "vr") (Rd.nil ?_)))))))
      refine ⟨_, _, _, rfl, (by walk_at "hp"), ?_⟩
      refine ⟨_, _, _, _, rfl, (by walk_at "hp"), (by walk_at "hp"), (by (try simp only [List.length_set, List.length_replicate] at *); omega), ⟨_, rfl, (by omega), (by (try simp only [List.length_set, List.length_replicate] at *); omega), ?_⟩⟩
      with_reducible refine Rd.var (by walk_at "vr") (Rd.neS (by walk_at "vr") (Rd.bl (Rd.iteF (by walk_at "bF") (Rd.next (Rd.seq (Rd.asg (Rd.newK ?_)))))))
      intro pd110_20 npd110_20
      with_reducible refine Rd.name ?_
      try dsimp only [Int.reduceToNat, List.set]
      have kH : H pd110_20 = none := by walk_at "nn"
      have k1_ : pd110_20 ≠ src1 := ne_none' npd110_20 (by walk_at "hp")
      have k2_ : pd110_20 ≠ x4 := ne_none' npd110_20 (by walk_at "hp")
      have k3_ : pd110_20 ≠ l4 := ne_none' npd110_20 (by walk_at "hp")
      have k4_ : pd110_20 ≠ x5 := ne_none' npd110_20 (by walk_at "hp")
      have k5_ : pd110_20 ≠ l5 := ne_none' npd110_20 (by walk_at "hp")
      have k6_ : pd110_20 ≠ c1 := ne_none' npd110_20 (by walk_at "hp")
      with_reducible refine Rd.seq (Rd.fr (Rd.rng1 (Rd.cons (Rd.call (Rd.cons (Rd.var (by walk_at "vr") (Rd.cons (Rd.c (Rd.nil ?_)))))))))
      refine ⟨_, _, _, rfl, (by walk_at "hp"), (by walk_at "sc"), (by first | omega | decide), (by first | omega | decide), fun dR oR dRa dRb soR => ?_⟩
      with_reducible refine Rd.nil (⟨_, rfl, (by walk_at "sc"), (by walk_at "sc"), ?_⟩)
      refine for_range (lo := 0) (fun (i : Nat) (σ : L2.St) (H' : Hp) => ∃ (v_turn v_k v_at v_odd v_wrong : Option V) (oo : HO) (os : List (Option Int)) (kvs : List (Key × V)), σ = [some (.ref a), v_turn, some (.ref src1), some (.int n9), some (.ref x4), some (.ref x5), v_k, some (.ref c1), some (.ref pd110_20), v_at, v_odd, v_wrong] ∧ Same H H' ∧ H' src1 = some oo ∧ SrcO oo ∧ H' x4 = some (.ins A.c_Slots dx4 (fS l4)) ∧ H' l4 = some (.lst (os.map Rd.ov)) ∧ H' x5 = some (.ins A.c_Slots dx5 (fS l5)) ∧ H' l5 = some (.lst ((List.replicate n9.toNat none).map Rd.ov)) ∧ H' c1 = some (.lst (ns9.map V.int)) ∧ H' pd110_20 = some (.dK kvs) ∧ kvs.length ≤ i ∧ (os.length : Int) = n9 ∧ Kept ns9 os kvs) ⟨_, _, _, _, _, _, _, [], rfl, (by walk_at "frm"), (by walk_at "hp"), soR, (by walk_at "hp"), (by walk_at "hp"), (by walk_at "hp"), (by walk_at "hp"), (by walk_at "hp"), (by walk_at "hp"), Nat.zero_le _, (by rw [List.length_replicate]; omega), kept_nil⟩ (fun i σ H6 hi6 ⟨v_turn, v_k, v_at, v_odd, v_wrong, oo, os, kvs, es, S6, g1, g2, a1, a2, a3, a4, a5, a6, kl, ol, kp⟩ => ?_) (fun σ H6 ⟨v_turn, v_k, v_at, v_odd, v_wrong, oo, os, kvs, es, S6, g1, g2, a1, a2, a3, a4, a5, a6, kl, ol, kp⟩ => ?_)
      · subst es
        with_reducible refine Rd.name (Rd.seq (Rd.asg (Rd.call (Rd.cons (Rd.var (by walk_at "vr") (Rd.cons (Rd.var (by walk_at "vr") (Rd.nil ?_))))))))
        refine ⟨_, _, _, _, rfl, (by walk_at "hp"), (by walk_at "sc"), (by walk_at "hp"), (by rw [List.length_map]; omega), (by rw [List.length_map]; omega), (by walk_at "ne"), fun vP oP HP mP FP rP soP => ?_⟩
        obtain ⟨xx, hxx, rfl⟩ := List.mem_map.mp mP
        obtain ⟨xx0, xx1⟩ := hm9 xx hxx
        with_reducible refine Rd.name ?_
        try dsimp only [Int.reduceToNat, List.set]
        with_reducible refine Rd.seq (Rd.asg (Rd.op (Rd.call (Rd.cons (Rd.var (by walk_at "vr") (Rd.cons (Rd.op (Rd.c (Rd.c (Rd.iC (by walk_at "scp") (Rd.nil ?_)))))))))))
        refine ⟨_, _, _, rfl, (by walk_at "hp"), (by walk_at "sc"), (by first | omega | decide), (by first | omega | decide), fun dV oV dVa dVb soV => ?_⟩
        with_reducible refine Rd.c (Rd.i0 (Rd.sub (Rd.var (by walk_at "vr") (Rd.var (by walk_at "vr") ?_))))
        refine Rd.setDI (by walk_at "hp") (by walk_at "sz") ?_
        with_reducible refine Rd.drop (Rd.call (Rd.cons (Rd.var (by walk_at "vr") (Rd.cons (Rd.var (by walk_at "vr") (Rd.cons (Rd.dget (Rd.var (by walk_at "vr") (Rd.var (by walk_at "vr") ?_)))))))))
        refine Rd.dgetI (by walk_at "hp") (by walk_at "dl") ?_
        with_reducible refine Rd.nil ?_
        refine ⟨_, _, _, _, _, _, rfl, (by walk_at "hp"), (by walk_at "hp"), (by omega), (by omega), ?_⟩
        exact ⟨_, _, _, _, _, _, os.set xx.toNat (some (dV - 5)), _, rfl, (by walk_at "frm"), (by walk_at "hp"), soV, (by walk_at "hp"), (by walk_at "hp"), (by walk_at "hp"), (by walk_at "hp"), (by walk_at "hp"), (by walk_at "hp"), (by have := L2.length_putK kvs (.inl xx) (.int (dV - 5)); omega), (by rw [List.length_set]; exact ol), kept_put kp (fun x hx => by have := hm9 x hx; omega) hxx⟩
      · subst es
        with_reducible refine Rd.seq ?_
        refine Rd.comp (fun H' => Same H H' ∧ (∃ ow, H' src1 = some ow ∧ SrcO ow) ∧ H' x4 = some (.ins A.c_Slots dx4 (fS l4)) ∧ H' l4 = some (.lst (os.map Rd.ov)) ∧ H' x5 = some (.ins A.c_Slots dx5 (fS l5)) ∧ H' l5 = some (.lst ((List.replicate n9.toNat none).map Rd.ov)) ∧ H' c1 = some (.lst (ns9.map V.int)) ∧ H' pd110_20 = some (.dK kvs)) ⟨by walk_at "frm", ⟨_, (by walk_at "hp"), (by with_reducible assumption)⟩, (by walk_at "hp"), (by walk_at "hp"), (by walk_at "hp"), (by walk_at "hp"), (by walk_at "hp"), (by walk_at "hp")⟩ (fun Hw ⟨Sw, ⟨ow, w1, w2⟩, a1, a2, a3, a4, a5, a6⟩ => ?_)
        with_reducible refine Rd.ifS (Rd.test (Rd.op (Rd.call (Rd.cons (Rd.var (by walk_at "vr") (Rd.cons (Rd.var (by walk_at "vr") (Rd.nil ?_))))))))
        refine ⟨_, _, _, _, _, ns9, rfl, (by walk_at "hp"), (by walk_at "hp"), (by walk_at "hp"), (by omega), (fun x hx => by have := hm9 x hx; (try rw [List.length_replicate]); omega), fun qR HR SR nqR hqR => ?_⟩
        with_reducible refine Rd.lc (Rd.il (Rd.var (by walk_at "vr") ?_))
        refine ⟨_, rfl, ⟨_, (by walk_at "hpl")⟩, ?_⟩
        intro D5 nD5
        refine' lc_list (fun i H' => Same HR H' ∧ H' D5 = some (.lst (((ns9.take i).map (rd os)).map Rd.ov))) (⟨by walk_at "frm", L2.upd_same⟩) (fun i H' _ p => Same.seq p.1 (by walk_at "hpl")) (fun i x H' hx p => ?lct5_u10) (fun H' p => ?lcd5_u10)
        case lct5_u10 =>
          obtain ⟨S9, hD⟩ := p
          rw [List.getElem?_map] at hx
          obtain ⟨z, hz, rfl⟩ := Option.map_eq_some_iff.mp hx
          have kz := kp z (List.mem_of_getElem? hz)
          have al9 : (((ns9.take i).map (rd os)).map Rd.ov).length ≤ 100 := by rw [List.length_map, List.length_map]; have := List.length_take_le' i ns9; omega
          with_reducible refine Rd.name ?_
          refine ⟨rfl, ?_⟩
          refine Rd.yes (Rd.iteT rfl ?_)
          with_reducible refine Rd.dget0 (Rd.var (by walk_at "vr") ?_)
          refine ⟨_, rfl, Rd.isDK (by walk_at "hp"), ?_⟩
          with_reducible refine Rd.var (by walk_at "vr") (Rd.c ?_)
          refine ⟨_, Rd.dgetK (by walk_at "hp"), ?_⟩
          rw [← kz]
          refine ⟨_, (by walk_at "hp"), (by walk_at "sz"), ?_⟩
          refine ⟨by walk_at "frm", ?_⟩
          rw [List.take_add_one, hz, List.map_append, List.map_append]
          exact L2.upd_same
        obtain ⟨S9, hD9⟩ := p
        rw [List.length_map, List.take_length] at hD9
        refine ⟨_, _, (by walk_at "dp"), (by walk_at "dp"), (by walk_at "shp"), (by walk_at "shp"), ?_⟩
        with_reducible refine Rd.bl (Rd.iteF (by walk_at "bF") (Rd.next (Rd.seq ?_)))
        refine Rd.comp (fun H' => Same H H' ∧ (∃ ow, H' src1 = some ow ∧ SrcO ow) ∧ H' x4 = some (.ins A.c_Slots dx4 (fS l4)) ∧ H' l4 = some (.lst (os.map Rd.ov)) ∧ H' x5 = some (.ins A.c_Slots dx5 (fS l5)) ∧ H' l5 = some (.lst ((List.replicate n9.toNat none).map Rd.ov)) ∧ H' c1 = some (.lst (ns9.map V.int)) ∧ H' pd110_20 = some (.dK kvs)) ⟨by walk_at "frm", ⟨_, (by walk_at "hp"), (by with_reducible assumption)⟩, (by walk_at "hp"), (by walk_at "hp"), (by walk_at "hp"), (by walk_at "hp"), (by walk_at "hp"), (by walk_at "hp")⟩ (fun Hw ⟨Sw, ⟨ow, w1, w2⟩, a1, a2, a3, a4, a5, a6⟩ => ?_)
        with_reducible refine Rd.asg (Rd.call (Rd.cons (Rd.var (by walk_at "vr") (Rd.cons (Rd.lst (Rd.cons (Rd.un (Rd.c (Rd.iU (Rd.cons (Rd.var (by walk_at "vr") ?_)))))))))))
        with_reducible refine Rd.cons (Rd.op (Rd.var (by walk_at "vr") (Rd.call (Rd.cons (Rd.var (by walk_at "vr") (Rd.cons (Rd.op (Rd.c (Rd.c (Rd.iC (by walk_at "scp") (Rd.nil ?_)))))))))))
        refine ⟨_, _, _, rfl, (by walk_at "hp"), (by walk_at "sc"), (by first | omega | decide), (by first | omega | decide), fun dO9 oO9 dO9a dO9b soO9 => ?_⟩
        with_reducible refine Rd.i0 (Rd.cons (Rd.c (Rd.cons (Rd.c (Rd.cons (Rd.c (Rd.cons (Rd.tup (Rd.cons (Rd.c (Rd.nil ?_)))))))))))
        with_reducible refine Rd.laid (by walk_at "ll") ?_
        intro p7 np7
        with_reducible refine Rd.cons (Rd.lst (Rd.cons (Rd.c (Rd.nil (Rd.laid (by walk_at "ll") ?_)))))
        intro p8 np8
        with_reducible refine Rd.cons (Rd.op (Rd.c (Rd.var (by walk_at "vr") (Rd.i0 (Rd.nil (Rd.laid (by walk_at "ll") ?_))))))
        intro p6 np6
        with_reducible refine Rd.nil ?_
        refine ⟨_, _, _, _, rfl, (by walk_at "hp"), (by walk_at "sc"), (by walk_at "hp"), (by first | with_reducible assumption | walk_at "ll0"), (by first | with_reducible assumption | walk_at "ll"), (by walk_at "ne"), fun vO oO HO mO FO rO soO => ?_⟩
        with_reducible refine Rd.name ?_
        try dsimp only [Int.reduceToNat, List.set]
        have bS : BadS K HO os.length vO := by
          simp only [List.mem_cons, List.not_mem_nil, or_false] at mO
          rcases mO with rfl | rfl | rfl | rfl | rfl | rfl | rfl | rfl | rfl
          · exact .inl ⟨_, rfl, by omega⟩
          · exact .inr (.inl ⟨_, rfl, by omega, by omega⟩)
          · exact .inr (.inl ⟨_, rfl, by omega, by omega⟩)
          · exact .inr (.inr (oddV_odd (.inl .non)))
          · exact .inr (.inr (oddV_odd (.inr ⟨_, rfl⟩)))
          · exact .inr (.inr (oddV_odd (.inl (.str _))))
          · exact .inr (.inr (oddV_odd (.inl (.tup (xs := [.int 0]) (by walk_at "hp")))))
          · exact .inr (.inr (oddV_odd (.inl (.lst (xs := [.int 0]) (by walk_at "hp") (by simp)))))
          · exact .inl ⟨_, rfl, by omega⟩
        with_reducible refine Rd.seq (Rd.ifS (Rd.or (Rd.test (Rd.op (Rd.call (Rd.cons (Rd.c (Rd.cons (Rd.var (by walk_at "vr") (Rd.cons (Rd.var (by walk_at "vr") ?_)))))))))))
        with_reducible refine Rd.nil ?_
        refine ⟨_, _, _, _, os, _, _, rfl, (by walk_at "hp"), (by walk_at "hp"), .inl ⟨.inl rfl, bS.same (by walk_at "frm"), rfl⟩, fun H16 S16 => ?_⟩
        with_reducible refine Rd.c (Rd.neS (by walk_at "vr") (Rd.bl (Rd.iteF (by walk_at "bF") (Rd.test (Rd.op (Rd.call (Rd.cons (Rd.c (Rd.cons (Rd.var (by walk_at "vr") (Rd.cons ?_)))))))))))
        with_reducible refine Rd.var (by walk_at "vr") (Rd.nil ?_)
        refine ⟨_, _, _, _, os, _, _, rfl, (by walk_at "hp"), (by walk_at "hp"), .inl ⟨.inr rfl, bS.same (by walk_at "frm"), rfl⟩, fun H17 S17 => ?_⟩
        with_reducible refine Rd.c (Rd.neS (by walk_at "vr") (Rd.bl (Rd.iteF (by walk_at "bF") (Rd.next (Rd.seq ?_)))))
        refine Rd.comp (fun H' => Same H H' ∧ (∃ ow, H' src1 = some ow ∧ SrcO ow) ∧ H' x4 = some (.ins A.c_Slots dx4 (fS l4)) ∧ H' l4 = some (.lst (os.map Rd.ov)) ∧ H' x5 = some (.ins A.c_Slots dx5 (fS l5)) ∧ H' l5 = some (.lst ((List.replicate n9.toNat none).map Rd.ov)) ∧ H' c1 = some (.lst (ns9.map V.int)) ∧ H' pd110_20 = some (.dK kvs)) ⟨by walk_at "frm", ⟨_, (by walk_at "hp"), (by with_reducible assumption)⟩, (by walk_at "hp"), (by walk_at "hp"), (by walk_at "hp"), (by walk_at "hp"), (by walk_at "hp"), (by walk_at "hp")⟩ (fun Hw ⟨Sw, ⟨ow, w1, w2⟩, a1, a2, a3, a4, a5, a6⟩ => ?_)
        with_reducible refine Rd.asg (Rd.call (Rd.cons (Rd.var (by walk_at "vr") (Rd.cons (Rd.lst (Rd.cons (Rd.c (Rd.cons (Rd.un (Rd.c (Rd.iU ?_)))))))))))
        with_reducible refine Rd.cons (Rd.op (Rd.op (Rd.c (Rd.c (Rd.iC (by walk_at "scp") (Rd.c (Rd.i0 (Rd.cons (Rd.op (Rd.c (Rd.c ?_)))))))))))
        with_reducible refine Rd.iC (by walk_at "scp") (Rd.cons (Rd.c (Rd.cons (Rd.c (Rd.cons (Rd.c (Rd.cons (Rd.lst (Rd.cons (Rd.c (Rd.nil ?_)))))))))))
        with_reducible refine Rd.laid (by walk_at "ll") ?_
        intro p10 np10
        with_reducible refine Rd.cons (Rd.tup (Rd.cons (Rd.c (Rd.nil (Rd.laid (by walk_at "ll") ?_)))))
        intro p11 np11
        with_reducible refine Rd.nil (Rd.laid (by walk_at "ll") ?_)
        intro p9 np9
        with_reducible refine Rd.nil ?_
        refine ⟨_, _, _, _, rfl, (by walk_at "hp"), (by walk_at "sc"), (by walk_at "hp"), (by first | with_reducible assumption | walk_at "ll0"), (by first | with_reducible assumption | walk_at "ll"), (by walk_at "ne"), fun vW oW HW mW FW rW soW => ?_⟩
        with_reducible refine Rd.name ?_
        try dsimp only [Int.reduceToNat, List.set]
        have bZ : BadZ K HW vW := by
          simp only [List.mem_cons, List.not_mem_nil, or_false] at mW
          rcases mW with rfl | rfl | rfl | rfl | rfl | rfl | rfl | rfl | rfl
          · exact .inl ⟨_, rfl, by omega⟩
          · exact .inl ⟨_, rfl, by omega⟩
          · exact .inr (.inl ⟨_, rfl, by omega, by omega⟩)
          · exact .inr (.inl ⟨_, rfl, by omega, by omega⟩)
          · exact .inr (.inr (oddV_odd (.inl .non)))
          · exact .inr (.inr (oddV_odd (.inr ⟨_, rfl⟩)))
          · exact .inr (.inr (oddV_odd (.inl (.str _))))
          · exact .inr (.inr (oddV_odd (.inl (.lst (xs := [.int 3]) (by walk_at "hp") (by simp)))))
          · exact .inr (.inr (oddV_odd (.inl (.tup (xs := [.int 3]) (by walk_at "hp")))))
        with_reducible refine Rd.seq (Rd.ifS (Rd.test (Rd.op (Rd.call (Rd.cons (Rd.c (Rd.cons (Rd.var (by walk_at "vr") (Rd.cons (Rd.var (by walk_at "vr") (Rd.nil ?_)))))))))))
        refine ⟨_, _, _, _, os, _, _, rfl, (by walk_at "hp"), (by walk_at "hp"), .inr ⟨rfl, bZ.same (by walk_at "frm"), rfl⟩, fun H19 S19 => ?_⟩
        with_reducible refine Rd.c (Rd.neS (by walk_at "vr") (Rd.bl (Rd.iteF (by walk_at "bF") (Rd.next (Rd.seq ?_)))))
        refine Rd.comp (fun H' => Same H H' ∧ (∃ ow, H' src1 = some ow ∧ SrcO ow) ∧ H' x4 = some (.ins A.c_Slots dx4 (fS l4)) ∧ H' l4 = some (.lst (os.map Rd.ov)) ∧ H' x5 = some (.ins A.c_Slots dx5 (fS l5)) ∧ H' l5 = some (.lst ((List.replicate n9.toNat none).map Rd.ov)) ∧ H' c1 = some (.lst (ns9.map V.int)) ∧ H' pd110_20 = some (.dK kvs)) ⟨by walk_at "frm", ⟨_, (by walk_at "hp"), (by with_reducible assumption)⟩, (by walk_at "hp"), (by walk_at "hp"), (by walk_at "hp"), (by walk_at "hp"), (by walk_at "hp"), (by walk_at "hp")⟩ (fun Hw ⟨Sw, ⟨ow, w1, w2⟩, a1, a2, a3, a4, a5, a6⟩ => ?_)
        with_reducible refine Rd.ifS (Rd.test (Rd.op (Rd.call (Rd.cons (Rd.var (by walk_at "vr") (Rd.cons (Rd.var (by walk_at "vr") (Rd.nil ?_))))))))
        refine ⟨_, _, _, _, _, ns9, rfl, (by walk_at "hp"), (by walk_at "hp"), (by walk_at "hp"), (by omega), (fun x hx => by have := hm9 x hx; (try rw [List.length_replicate]); omega), fun qR HR SR nqR hqR => ?_⟩
        with_reducible refine Rd.lc (Rd.il (Rd.var (by walk_at "vr") ?_))
        refine ⟨_, rfl, ⟨_, (by walk_at "hpl")⟩, ?_⟩
        intro D12 nD12
        refine' lc_list (fun i H' => Same HR H' ∧ H' D12 = some (.lst (((ns9.take i).map (rd os)).map Rd.ov))) (⟨by walk_at "frm", L2.upd_same⟩) (fun i H' _ p => Same.seq p.1 (by walk_at "hpl")) (fun i x H' hx p => ?lct12_u11) (fun H' p => ?lcd12_u11)
        case lct12_u11 =>
          obtain ⟨S9, hD⟩ := p
          rw [List.getElem?_map] at hx
          obtain ⟨z, hz, rfl⟩ := Option.map_eq_some_iff.mp hx
          have kz := kp z (List.mem_of_getElem? hz)
          have al9 : (((ns9.take i).map (rd os)).map Rd.ov).length ≤ 100 := by rw [List.length_map, List.length_map]; have := List.length_take_le' i ns9; omega
          with_reducible refine Rd.name ?_
          refine ⟨rfl, ?_⟩
          refine Rd.yes (Rd.iteT rfl ?_)
          with_reducible refine Rd.dget0 (Rd.var (by walk_at "vr") ?_)
          refine ⟨_, rfl, Rd.isDK (by walk_at "hp"), ?_⟩
          with_reducible refine Rd.var (by walk_at "vr") (Rd.c ?_)
          refine ⟨_, Rd.dgetK (by walk_at "hp"), ?_⟩
          rw [← kz]
          refine ⟨_, (by walk_at "hp"), (by walk_at "sz"), ?_⟩
          refine ⟨by walk_at "frm", ?_⟩
          rw [List.take_add_one, hz, List.map_append, List.map_append]
          exact L2.upd_same
        obtain ⟨S9, hD9⟩ := p
        rw [List.length_map, List.take_length] at hD9
        refine ⟨_, _, (by walk_at "dp"), (by walk_at "dp"), (by walk_at "shp"), (by walk_at "shp"), ?_⟩
        with_reducible refine Rd.bl (Rd.iteF (by walk_at "bF") (Rd.next (Rd.seq ?_)))
        refine Rd.comp (fun H' => Same H H' ∧ (∃ ow, H' src1 = some ow ∧ SrcO ow) ∧ H' x4 = some (.ins A.c_Slots dx4 (fS l4)) ∧ H' l4 = some (.lst (os.map Rd.ov)) ∧ H' x5 = some (.ins A.c_Slots dx5 (fS l5)) ∧ H' l5 = some (.lst ((List.replicate n9.toNat none).map Rd.ov)) ∧ H' c1 = some (.lst (ns9.map V.int)) ∧ H' pd110_20 = some (.dK kvs)) ⟨by walk_at "frm", ⟨_, (by walk_at "hp"), (by with_reducible assumption)⟩, (by walk_at "hp"), (by walk_at "hp"), (by walk_at "hp"), (by walk_at "hp"), (by walk_at "hp"), (by walk_at "hp")⟩ (fun Hw ⟨Sw, ⟨ow, w1, w2⟩, a1, a2, a3, a4, a5, a6⟩ => ?_)
        with_reducible refine Rd.ifS (Rd.test (Rd.op (Rd.cB (Rd.cons (Rd.var (by walk_at "vr") (Rd.nil ?_))))))
        refine ⟨_, _, _, rfl, (by walk_at "hp"), ?_⟩
        refine ⟨_, _, _, _, rfl, (by walk_at "hp"), (by walk_at "hp"), (by (try simp only [List.length_set, List.length_replicate] at *); omega), ⟨_, rfl, (by omega), (by (try simp only [List.length_set, List.length_replicate] at *); omega), ?_⟩⟩
        with_reducible refine Rd.var (by walk_at "vr") (Rd.neS (by walk_at "vr") (Rd.bl (Rd.iteF (by walk_at "bF") (Rd.next (Rd.ifS (Rd.test (Rd.op (Rd.call (Rd.cons (Rd.var (by walk_at "vr") (Rd.cons ?_)))))))))))
        with_reducible refine Rd.var (by walk_at "vr") (Rd.nil ?_)
        refine ⟨_, _, _, _, _, ns9, rfl, (by walk_at "hp"), (by walk_at "hp"), (by walk_at "hp"), (by omega), (fun x hx => by have := hm9 x hx; (try rw [List.length_replicate]); omega), fun qR HR SR nqR hqR => ?_⟩
        with_reducible refine Rd.op (Rd.lst (Rd.cons (Rd.c (Rd.nil (Rd.laid (by walk_at "ll") ?_)))))
        intro p13 np13
        with_reducible refine Rd.c ?_
        refine ⟨_, _, _, rfl, rfl, (by walk_at "hp"), (by walk_at "sc"), (by walk_at "sc"), (by walk_at "rep"), fun c3 nc3 => ?_⟩
        rw [show (List.replicate (8 : Int).toNat [V.non]).flatten = (List.replicate 8 (none : Option Int)).map Rd.ov from rfl]
        refine ⟨_, _, (by walk_at "dp"), (by walk_at "dp"), (by walk_at "shp"), (by walk_at "shp"), ?_⟩
        with_reducible refine Rd.bl (Rd.iteF (by walk_at "bF") (Rd.next ?_))
        exact ⟨_, _, _, _, _, _, _, _, _, _, _, rfl, (by walk_at "frm")⟩
    · subst es
      with_reducible refine Rd.ret (Rd.c ?_)
      exact k _
end
theorem all_mk {l : PySem.W.OpenLaw} {w : World} {K : PySem.W.Frag} {h : Heap} {mg : Str → Option Value} {fa f_is_whole f_is_whole_from f_Slotsu__initu_ f_Slotsu_check_slot f_Slotsu__getitemu_ f_Slotsu__setitemu_ f_Slotsu__lenu_ f_l_source f_l_draw f_l_pick f_l_kind f_l_lay f_l_error f_l_read f_law c_Slots c_RingError c_NoForm c_NoCounter c_NoScheme c_NoRing c_NoRun c_NoSet c_TooLong c_NoSize c_Outside : Addr} (X : K.In h) (G : h.Ns mainGlobals mg) (hfa : mg "law" = some (.ref fa))
    {fd_is_whole : FuncData}
    {fd_is_whole_from : FuncData}
    {fd_Slotsu__initu_ : FuncData}
    {fd_Slotsu_check_slot : FuncData}
    {fd_Slotsu__getitemu_ : FuncData}
    {fd_Slotsu__setitemu_ : FuncData}
    {fd_Slotsu__lenu_ : FuncData}
    {fd_l_source : FuncData}
    {fd_l_draw : FuncData}
    {fd_l_pick : FuncData}
    {fd_l_kind : FuncData}
    {fd_l_lay : FuncData}
    {fd_l_error : FuncData}
    {fd_l_read : FuncData}
    {fd_law : FuncData}
    {t_MOST_SLOTS : Tok}
    (h_n_ValueError : PySem.W.nsIn K mainGlobals "ValueError" = some none)
    (h_n_abs : PySem.W.nsIn K mainGlobals "abs" = some none)
    (h_n_bool : PySem.W.nsIn K mainGlobals "bool" = some none)
    (h_n_int : PySem.W.nsIn K mainGlobals "int" = some none)
    (h_n_isinstance : PySem.W.nsIn K mainGlobals "isinstance" = some none)
    (h_n_len : PySem.W.nsIn K mainGlobals "len" = some none)
    (h_n_max : PySem.W.nsIn K mainGlobals "max" = some none)
    (h_n_min : PySem.W.nsIn K mainGlobals "min" = some none)
    (h_n_range : PySem.W.nsIn K mainGlobals "range" = some none)
    (h_n_zip : PySem.W.nsIn K mainGlobals "zip" = some none)
    (h_m_MOST_SLOTS : PySem.W.nsIn K mainGlobals "MOST_SLOTS" = some (some (.int (10000) t_MOST_SLOTS)))
    (h_m_NoSize : PySem.W.nsIn K mainGlobals "NoSize" = some (some (.ref c_NoSize)))
    (h_m_Outside : PySem.W.nsIn K mainGlobals "Outside" = some (some (.ref c_Outside)))
    (h_m_Slots : PySem.W.nsIn K mainGlobals "Slots" = some (some (.ref c_Slots)))
    (h_n_Slots_laid : PySem.W.findIn K (.ref c_Slots) "_laid" = some none)
    (h_m_RingError : PySem.W.nsIn K mainGlobals "RingError" = some (some (.ref c_RingError)))
    (h_m_NoForm : PySem.W.nsIn K mainGlobals "NoForm" = some (some (.ref c_NoForm)))
    (h_m_NoCounter : PySem.W.nsIn K mainGlobals "NoCounter" = some (some (.ref c_NoCounter)))
    (h_m_NoScheme : PySem.W.nsIn K mainGlobals "NoScheme" = some (some (.ref c_NoScheme)))
    (h_m_NoRing : PySem.W.nsIn K mainGlobals "NoRing" = some (some (.ref c_NoRing)))
    (h_m_NoRun : PySem.W.nsIn K mainGlobals "NoRun" = some (some (.ref c_NoRun)))
    (h_m_NoSet : PySem.W.nsIn K mainGlobals "NoSet" = some (some (.ref c_NoSet)))
    (h_m_TooLong : PySem.W.nsIn K mainGlobals "TooLong" = some (some (.ref c_TooLong)))
    (h_m_is_whole : PySem.W.nsIn K mainGlobals "is_whole" = some (some (.ref f_is_whole)))
    (h_m_is_whole_from : PySem.W.nsIn K mainGlobals "is_whole_from" = some (some (.ref f_is_whole_from)))
    (h_m_l_source : PySem.W.nsIn K mainGlobals "_law_source" = some (some (.ref f_l_source)))
    (h_m_l_draw : PySem.W.nsIn K mainGlobals "_law_draw" = some (some (.ref f_l_draw)))
    (h_m_l_pick : PySem.W.nsIn K mainGlobals "_law_pick" = some (some (.ref f_l_pick)))
    (h_m_l_kind : PySem.W.nsIn K mainGlobals "_law_kind" = some (some (.ref f_l_kind)))
    (h_m_l_lay : PySem.W.nsIn K mainGlobals "_law_lay" = some (some (.ref f_l_lay)))
    (h_m_l_error : PySem.W.nsIn K mainGlobals "_law_error" = some (some (.ref f_l_error)))
    (h_m_l_read : PySem.W.nsIn K mainGlobals "_law_read" = some (some (.ref f_l_read)))
    (h_m_law : PySem.W.nsIn K mainGlobals "law" = some (some (.ref f_law)))
    (h_in_Slots : PySem.W.findIn K (.ref c_Slots) "__init__" = some (some (.ref f_Slotsu__initu_)))
    (h_a_Slotsu_check_slot : PySem.W.findIn K (.ref c_Slots) "_check_slot" = some (some (.ref f_Slotsu_check_slot)))
    (h_a_Slotsu__getitemu_ : PySem.W.findIn K (.ref c_Slots) "__getitem__" = some (some (.ref f_Slotsu__getitemu_)))
    (h_a_Slotsu__setitemu_ : PySem.W.findIn K (.ref c_Slots) "__setitem__" = some (some (.ref f_Slotsu__setitemu_)))
    (h_a_Slotsu__lenu_ : PySem.W.findIn K (.ref c_Slots) "__len__" = some (some (.ref f_Slotsu__lenu_)))
    (h_x_NoSize : PySem.W.excIn K c_NoSize [.type "ValueError", .type "Exception", .type "BaseException", .type "object"] "ValueError.__new__" = true)
    (h_kp_NoSize : PySem.W.keepIn K (.ref c_NoSize) = true)
    (h_sb_NoSize : PySem.W.subIn K (.ref c_NoSize) (.type "BaseException") = some true)
    (h_tc_NoSize : PySem.W.typeIn K (.ref c_NoSize) = some (.type "type"))
    (h_x_Outside : PySem.W.excIn K c_Outside [.type "ValueError", .type "Exception", .type "BaseException", .type "object"] "ValueError.__new__" = true)
    (h_kp_Outside : PySem.W.keepIn K (.ref c_Outside) = true)
    (h_sb_Outside : PySem.W.subIn K (.ref c_Outside) (.type "BaseException") = some true)
    (h_tc_Outside : PySem.W.typeIn K (.ref c_Outside) = some (.type "type"))
    (h_pg_Slots : PySem.W.plainGet K c_Slots Str.empty = true)
    (h_hd_Slots : PySem.W.hasDictIn K c_Slots = true)
    (h_po_Slots : PySem.W.plainOver K c_Slots = true)
    (h_sa_Slots : PySem.W.findIn K (.ref c_Slots) "__setattr__" = some (some (.builtin "object.__setattr__")))
    (h_mk_Slots : PySem.W.makesIn K c_Slots = true)
    (h_ii_Slots : PySem.W.isFn K (.ref f_Slotsu__initu_) = true)
    (h_kp_Slots : PySem.W.keepIn K (.ref c_Slots) = true)
    (h_nq_Slots : PySem.W.noSeq K c_Slots = true)
    (h_F_is_whole : FunD K "is_whole" "is_whole" (defArgs s_is_whole) (defBody s_is_whole) (defScope s_is_whole) [] [] f_is_whole fd_is_whole)
    (h_F_is_whole_from : FunD K "is_whole_from" "is_whole_from" (defArgs s_is_whole_from) (defBody s_is_whole_from) (defScope s_is_whole_from) [] [] f_is_whole_from fd_is_whole_from)
    (h_F_Slotsu__initu_ : FunD K "__init__" "Slots.__init__" (defArgs s_Slotsu__initu_) (defBody s_Slotsu__initu_) (defScope s_Slotsu__initu_) [] [] f_Slotsu__initu_ fd_Slotsu__initu_)
    (h_i_Slotsu_check_slot : PySem.W.isFn K (.ref f_Slotsu_check_slot) = true)
    (h_F_Slotsu_check_slot : FunD K "_check_slot" "Slots._check_slot" (defArgs s_Slotsu_check_slot) (defBody s_Slotsu_check_slot) (defScope s_Slotsu_check_slot) [] [] f_Slotsu_check_slot fd_Slotsu_check_slot)
    (h_F_Slotsu__getitemu_ : FunD K "__getitem__" "Slots.__getitem__" (defArgs s_Slotsu__getitemu_) (defBody s_Slotsu__getitemu_) (defScope s_Slotsu__getitemu_) [] [] f_Slotsu__getitemu_ fd_Slotsu__getitemu_)
    (h_F_Slotsu__setitemu_ : FunD K "__setitem__" "Slots.__setitem__" (defArgs s_Slotsu__setitemu_) (defBody s_Slotsu__setitemu_) (defScope s_Slotsu__setitemu_) [] [] f_Slotsu__setitemu_ fd_Slotsu__setitemu_)
    (h_F_Slotsu__lenu_ : FunD K "__len__" "Slots.__len__" (defArgs s_Slotsu__lenu_) (defBody s_Slotsu__lenu_) (defScope s_Slotsu__lenu_) [] [] f_Slotsu__lenu_ fd_Slotsu__lenu_)
    (h_F_l_source : FunD K "_law_source" "_law_source" (defArgs s_l_source) (defBody s_l_source) (defScope s_l_source) [] [] f_l_source fd_l_source)
    (h_F_l_draw : FunD K "_law_draw" "_law_draw" (defArgs s_l_draw) (defBody s_l_draw) (defScope s_l_draw) [] [] f_l_draw fd_l_draw)
    (h_F_l_pick : FunD K "_law_pick" "_law_pick" (defArgs s_l_pick) (defBody s_l_pick) (defScope s_l_pick) [] [] f_l_pick fd_l_pick)
    (h_F_l_kind : FunD K "_law_kind" "_law_kind" (defArgs s_l_kind) (defBody s_l_kind) (defScope s_l_kind) [] [] f_l_kind fd_l_kind)
    (h_F_l_lay : FunD K "_law_lay" "_law_lay" (defArgs s_l_lay) (defBody s_l_lay) (defScope s_l_lay) [] [] f_l_lay fd_l_lay)
    (h_F_l_error : FunD K "_law_error" "_law_error" (defArgs s_l_error) (defBody s_l_error) (defScope s_l_error) [] [] f_l_error fd_l_error)
    (h_F_l_read : FunD K "_law_read" "_law_read" (defArgs s_l_read) (defBody s_l_read) (defScope s_l_read) [] [] f_l_read fd_l_read)
    (h_F_law : FunD K "law" "law" (defArgs s_law) (defBody s_law) (defScope s_law) [] [] f_law fd_law)
    (h_i_Slotsu__getitemu_ : PySem.W.isFn K (.ref f_Slotsu__getitemu_) = true)
    (h_fi_Slotsu__getitemu_ : PySem.W.fnIn K f_Slotsu__getitemu_ = true)
    (h_i_Slotsu__setitemu_ : PySem.W.isFn K (.ref f_Slotsu__setitemu_) = true)
    (h_i_Slotsu__lenu_ : PySem.W.isFn K (.ref f_Slotsu__lenu_) = true)
    (h_kt_NoSize_in_NoForm : PySem.W.kitOne K (.ref c_NoSize) (.ref c_NoForm) = some false)
    (h_kt_NoSize_in_NoCounter : PySem.W.kitOne K (.ref c_NoSize) (.ref c_NoCounter) = some false)
    (h_kt_NoSize_in_NoScheme : PySem.W.kitOne K (.ref c_NoSize) (.ref c_NoScheme) = some false)
    (h_kt_NoSize_in_NoSize : PySem.W.kitOne K (.ref c_NoSize) (.ref c_NoSize) = some true)
    (h_kt_NoSize_in_NoRing : PySem.W.kitOne K (.ref c_NoSize) (.ref c_NoRing) = some false)
    (h_kt_NoSize_in_Outside : PySem.W.kitOne K (.ref c_NoSize) (.ref c_Outside) = some false)
    (h_kt_NoSize_in_NoRun : PySem.W.kitOne K (.ref c_NoSize) (.ref c_NoRun) = some false)
    (h_kt_NoSize_in_NoSet : PySem.W.kitOne K (.ref c_NoSize) (.ref c_NoSet) = some false)
    (h_kt_NoSize_in_TooLong : PySem.W.kitOne K (.ref c_NoSize) (.ref c_TooLong) = some false)
    (h_kt_NoSize_in_VE : PySem.W.kitOne K (.ref c_NoSize) (.type "ValueError") = some true)
    (h_sb_RingError : PySem.W.subIn K (.ref c_RingError) (.type "BaseException") = some true)
    (h_hd_RingError : PySem.W.hasDictIn K c_RingError = true)
    (h_tc_RingError : PySem.W.typeIn K (.ref c_RingError) = some (.type "type"))
    (h_sr_NoSize : PySem.W.subIn K (.ref c_NoSize) (.ref c_RingError) = some true)
    (h_ecg_NoSize : PySem.W.findIn K (.ref c_NoSize) "__getattribute__" = some (some (.builtin "BaseException.__getattribute__")))
    (h_eck_NoSize : PySem.W.findIn K (.ref c_NoSize) "__getattr__" = some none)
    (h_hd_NoSize : PySem.W.hasDictIn K c_NoSize = true)
    (h_eca_NoSize : PySem.W.findIn K (.ref c_NoSize) "__class__" = some (some (.builtin "object.__class__")))
    (h_ecn : PySem.W.specialIn K (.builtin "object.__class__") "__get__" = some (some (.builtin "getset_descriptor.__get__")))
    (h_ect : PySem.W.takesIn K (.builtin "object.__class__") = some true)
    (h_ecm_NoSize : PySem.W.mroIn K c_NoSize (.type "object") = some true)
    (h_kt_Outside_in_NoForm : PySem.W.kitOne K (.ref c_Outside) (.ref c_NoForm) = some false)
    (h_kt_Outside_in_NoCounter : PySem.W.kitOne K (.ref c_Outside) (.ref c_NoCounter) = some false)
    (h_kt_Outside_in_NoScheme : PySem.W.kitOne K (.ref c_Outside) (.ref c_NoScheme) = some false)
    (h_kt_Outside_in_NoSize : PySem.W.kitOne K (.ref c_Outside) (.ref c_NoSize) = some false)
    (h_kt_Outside_in_NoRing : PySem.W.kitOne K (.ref c_Outside) (.ref c_NoRing) = some false)
    (h_kt_Outside_in_Outside : PySem.W.kitOne K (.ref c_Outside) (.ref c_Outside) = some true)
    (h_kt_Outside_in_NoRun : PySem.W.kitOne K (.ref c_Outside) (.ref c_NoRun) = some false)
    (h_kt_Outside_in_NoSet : PySem.W.kitOne K (.ref c_Outside) (.ref c_NoSet) = some false)
    (h_kt_Outside_in_TooLong : PySem.W.kitOne K (.ref c_Outside) (.ref c_TooLong) = some false)
    (h_kt_Outside_in_VE : PySem.W.kitOne K (.ref c_Outside) (.type "ValueError") = some true)
    (h_sr_Outside : PySem.W.subIn K (.ref c_Outside) (.ref c_RingError) = some true)
    (h_ecg_Outside : PySem.W.findIn K (.ref c_Outside) "__getattribute__" = some (some (.builtin "BaseException.__getattribute__")))
    (h_eck_Outside : PySem.W.findIn K (.ref c_Outside) "__getattr__" = some none)
    (h_hd_Outside : PySem.W.hasDictIn K c_Outside = true)
    (h_eca_Outside : PySem.W.findIn K (.ref c_Outside) "__class__" = some (some (.builtin "object.__class__")))
    (h_ecm_Outside : PySem.W.mroIn K c_Outside (.type "object") = some true)
    : ∃ fd : FuncData, (∀ (s : Shared) (v : Value), BindsTo s fd ⟨[v], []⟩ [("_law_script", v)]) ∧ ∀ base : Heap, K.In base → base.Ns mainGlobals mg → FnOk l.prog w K mg base CX0 7 fa fd ["_law_script"] (sp_law K) := by
  have e := hfa.symm.trans (PySem.W.mg_of X G h_m_law)
  cases e
  have T : Txt w K mg ⟨f_is_whole, fd_is_whole, f_is_whole_from, fd_is_whole_from, f_Slotsu__initu_, fd_Slotsu__initu_, f_Slotsu_check_slot, fd_Slotsu_check_slot, f_Slotsu__getitemu_, fd_Slotsu__getitemu_, f_Slotsu__setitemu_, fd_Slotsu__setitemu_, f_Slotsu__lenu_, fd_Slotsu__lenu_, f_l_source, fd_l_source, f_l_draw, fd_l_draw, f_l_pick, fd_l_pick, f_l_kind, fd_l_kind, f_l_lay, fd_l_lay, f_l_error, fd_l_error, f_l_read, fd_l_read, fa, fd_law, c_Slots, c_RingError, c_NoForm, c_NoCounter, c_NoScheme, c_NoRing, c_NoRun, c_NoSet, c_TooLong, c_NoSize, c_Outside, t_MOST_SLOTS⟩ := {
    n_ValueError := PySem.W.mg_none_of X G h_n_ValueError,
    n_abs := PySem.W.mg_none_of X G h_n_abs,
    n_bool := PySem.W.mg_none_of X G h_n_bool,
    n_int := PySem.W.mg_none_of X G h_n_int,
    n_isinstance := PySem.W.mg_none_of X G h_n_isinstance,
    n_len := PySem.W.mg_none_of X G h_n_len,
    n_max := PySem.W.mg_none_of X G h_n_max,
    n_min := PySem.W.mg_none_of X G h_n_min,
    n_range := PySem.W.mg_none_of X G h_n_range,
    n_zip := PySem.W.mg_none_of X G h_n_zip,
    m_MOST_SLOTS := PySem.W.mg_of X G h_m_MOST_SLOTS,
    m_NoSize := PySem.W.mg_of X G h_m_NoSize,
    x_NoSize := h_x_NoSize,
    kp_NoSize := h_kp_NoSize,
    sb_NoSize := h_sb_NoSize,
    tc_NoSize := h_tc_NoSize,
    m_Outside := PySem.W.mg_of X G h_m_Outside,
    x_Outside := h_x_Outside,
    kp_Outside := h_kp_Outside,
    sb_Outside := h_sb_Outside,
    tc_Outside := h_tc_Outside,
    m_Slots := PySem.W.mg_of X G h_m_Slots,
    k_Slots := ⟨h_pg_Slots, h_hd_Slots, h_po_Slots, h_sa_Slots⟩,
    n_Slots_laid := h_n_Slots_laid,
    K_Slots := ⟨h_mk_Slots, h_in_Slots, h_ii_Slots, h_kp_Slots⟩,
    nq_Slots := h_nq_Slots,
    m_RingError := PySem.W.mg_of X G h_m_RingError,
    m_NoForm := PySem.W.mg_of X G h_m_NoForm,
    m_NoCounter := PySem.W.mg_of X G h_m_NoCounter,
    m_NoScheme := PySem.W.mg_of X G h_m_NoScheme,
    m_NoRing := PySem.W.mg_of X G h_m_NoRing,
    m_NoRun := PySem.W.mg_of X G h_m_NoRun,
    m_NoSet := PySem.W.mg_of X G h_m_NoSet,
    m_TooLong := PySem.W.mg_of X G h_m_TooLong,
    m_is_whole := PySem.W.mg_of X G h_m_is_whole,
    F_is_whole := Hd.plain h_F_is_whole,
    b_is_whole := (Hd.plain h_F_is_whole).binds fun _ _ _ _ _ _ us hl => match us, hl with | [_], _ => rfl,
    m_is_whole_from := PySem.W.mg_of X G h_m_is_whole_from,
    F_is_whole_from := Hd.plain h_F_is_whole_from,
    b_is_whole_from := (Hd.plain h_F_is_whole_from).binds fun _ _ _ _ _ _ us hl => match us, hl with | [_, _, _], _ => rfl,
    F_Slotsu__initu_ := Hd.plain h_F_Slotsu__initu_,
    b_Slotsu__initu_ := (Hd.plain h_F_Slotsu__initu_).binds fun _ _ _ _ _ _ us hl => match us, hl with | [_, _], _ => rfl,
    M_Slotsu_check_slot := ⟨h_a_Slotsu_check_slot, h_i_Slotsu_check_slot, h_F_Slotsu_check_slot.kp⟩,
    F_Slotsu_check_slot := Hd.plain h_F_Slotsu_check_slot,
    b_Slotsu_check_slot := (Hd.plain h_F_Slotsu_check_slot).binds fun _ _ _ _ _ _ us hl => match us, hl with | [_, _], _ => rfl,
    F_Slotsu__getitemu_ := Hd.plain h_F_Slotsu__getitemu_,
    b_Slotsu__getitemu_ := (Hd.plain h_F_Slotsu__getitemu_).binds fun _ _ _ _ _ _ us hl => match us, hl with | [_, _], _ => rfl,
    F_Slotsu__setitemu_ := Hd.plain h_F_Slotsu__setitemu_,
    b_Slotsu__setitemu_ := (Hd.plain h_F_Slotsu__setitemu_).binds fun _ _ _ _ _ _ us hl => match us, hl with | [_, _, _], _ => rfl,
    F_Slotsu__lenu_ := Hd.plain h_F_Slotsu__lenu_,
    b_Slotsu__lenu_ := (Hd.plain h_F_Slotsu__lenu_).binds fun _ _ _ _ _ _ us hl => match us, hl with | [_], _ => rfl,
    m_l_source := PySem.W.mg_of X G h_m_l_source,
    F_l_source := Hd.plain h_F_l_source,
    b_l_source := (Hd.plain h_F_l_source).binds fun _ _ _ _ _ _ us hl => match us, hl with | [_, _], _ => rfl,
    m_l_draw := PySem.W.mg_of X G h_m_l_draw,
    F_l_draw := Hd.plain h_F_l_draw,
    b_l_draw := (Hd.plain h_F_l_draw).binds fun _ _ _ _ _ _ us hl => match us, hl with | [_, _], _ => rfl,
    m_l_pick := PySem.W.mg_of X G h_m_l_pick,
    F_l_pick := Hd.plain h_F_l_pick,
    b_l_pick := (Hd.plain h_F_l_pick).binds fun _ _ _ _ _ _ us hl => match us, hl with | [_, _], _ => rfl,
    m_l_kind := PySem.W.mg_of X G h_m_l_kind,
    F_l_kind := Hd.plain h_F_l_kind,
    b_l_kind := (Hd.plain h_F_l_kind).binds fun _ _ _ _ _ _ us hl => match us, hl with | [_], _ => rfl,
    m_l_lay := PySem.W.mg_of X G h_m_l_lay,
    F_l_lay := Hd.plain h_F_l_lay,
    b_l_lay := (Hd.plain h_F_l_lay).binds fun _ _ _ _ _ _ us hl => match us, hl with | [_, _, _], _ => rfl,
    m_l_error := PySem.W.mg_of X G h_m_l_error,
    F_l_error := Hd.plain h_F_l_error,
    b_l_error := (Hd.plain h_F_l_error).binds fun _ _ _ _ _ _ us hl => match us, hl with | [_, _, _], _ => rfl,
    m_l_read := PySem.W.mg_of X G h_m_l_read,
    F_l_read := Hd.plain h_F_l_read,
    b_l_read := (Hd.plain h_F_l_read).binds fun _ _ _ _ _ _ us hl => match us, hl with | [_, _], _ => rfl,
    m_law := PySem.W.mg_of X G h_m_law,
    F_law := Hd.plain h_F_law,
    b_law := (Hd.plain h_F_law).binds fun _ _ _ _ _ _ us hl => match us, hl with | [_], _ => rfl,
    O_Slotsu__getitemu__1 := ⟨h_a_Slotsu__getitemu_, h_i_Slotsu__getitemu_⟩,
    fi_Slotsu__getitemu_ := h_fi_Slotsu__getitemu_,
    O_Slotsu__setitemu__1 := ⟨h_a_Slotsu__setitemu_, h_i_Slotsu__setitemu_⟩,
    O_Slotsu__lenu__1 := ⟨h_a_Slotsu__lenu_, h_i_Slotsu__lenu_⟩,
    kt_NoSize_in_NoForm := h_kt_NoSize_in_NoForm,
    kt_NoSize_in_NoCounter := h_kt_NoSize_in_NoCounter,
    kt_NoSize_in_NoScheme := h_kt_NoSize_in_NoScheme,
    kt_NoSize_in_NoSize := h_kt_NoSize_in_NoSize,
    kt_NoSize_in_NoRing := h_kt_NoSize_in_NoRing,
    kt_NoSize_in_Outside := h_kt_NoSize_in_Outside,
    kt_NoSize_in_NoRun := h_kt_NoSize_in_NoRun,
    kt_NoSize_in_NoSet := h_kt_NoSize_in_NoSet,
    kt_NoSize_in_TooLong := h_kt_NoSize_in_TooLong,
    kt_NoSize_in_VE := h_kt_NoSize_in_VE,
    xm_NoSize := PySem.W.exm_ref h_sb_RingError h_hd_RingError h_tc_RingError h_sr_NoSize,
    ec_NoSize := ⟨h_ecg_NoSize, h_eck_NoSize, h_sb_NoSize, h_hd_NoSize, h_eca_NoSize, h_ecn, h_ect, h_ecm_NoSize⟩,
    kt_Outside_in_NoForm := h_kt_Outside_in_NoForm,
    kt_Outside_in_NoCounter := h_kt_Outside_in_NoCounter,
    kt_Outside_in_NoScheme := h_kt_Outside_in_NoScheme,
    kt_Outside_in_NoSize := h_kt_Outside_in_NoSize,
    kt_Outside_in_NoRing := h_kt_Outside_in_NoRing,
    kt_Outside_in_Outside := h_kt_Outside_in_Outside,
    kt_Outside_in_NoRun := h_kt_Outside_in_NoRun,
    kt_Outside_in_NoSet := h_kt_Outside_in_NoSet,
    kt_Outside_in_TooLong := h_kt_Outside_in_TooLong,
    kt_Outside_in_VE := h_kt_Outside_in_VE,
    xm_Outside := PySem.W.exm_ref h_sb_RingError h_hd_RingError h_tc_RingError h_sr_Outside,
    ec_Outside := ⟨h_ecg_Outside, h_eck_Outside, h_sb_Outside, h_hd_Outside, h_eca_Outside, h_ecn, h_ect, h_ecm_Outside⟩ }
  have bl := FunD.bindsA (ps := ["_law_script"]) h_F_law fun _ _ _ _ _ _ us hl => match us, hl with | [_], _ => rfl
  exact ⟨fd_law, fun s v => bl s [v] rfl, fun base _ _ => ok_law T⟩
theorem facts {P : PySem.W.OpenLaw} {w : World} {K : PySem.W.Frag} {h : Heap} {mg : Str → Option Value} {fa : Addr} (X : K.In h) (G : h.Ns mainGlobals mg) (hfa : mg "law" = some (.ref fa)) (c : Hd.tell fns tbs exs K = Hd.told fns tbs w) :
    ∃ fd : FuncData, (∀ (s : Shared) (v : Value), BindsTo s fd ⟨[v], []⟩ [("_law_script", v)]) ∧ ∀ base : Heap, K.In base → base.Ns mainGlobals mg → FnOk P.prog w K mg base CX0 7 fa fd ["_law_script"] (sp_law K) := by
  have e := Hd.exOf c
  obtain ⟨e0, e⟩ := He.ba e
  obtain ⟨h_n_ValueError, h_n_abs, h_n_bool, h_n_int, h_n_isinstance, h_n_len, h_n_max, h_n_min, h_n_range, h_n_zip, h_m_MOST_SLOTS, h_m_NoSize⟩ := (show Px0 K from of_decide_eq_true e0)
  obtain ⟨e1, e⟩ := He.ba e
  obtain ⟨h_m_Outside, h_m_Slots, h_n_Slots_laid, h_m_RingError, h_m_NoForm, h_m_NoCounter, h_m_NoScheme, h_m_NoRing, h_m_NoRun, h_m_NoSet, h_m_TooLong, h_m_is_whole⟩ := (show Px1 K from of_decide_eq_true e1)
  obtain ⟨e2, e⟩ := He.ba e
  obtain ⟨h_m_is_whole_from, h_m_l_source, h_m_l_draw, h_m_l_pick, h_m_l_kind, h_m_l_lay, h_m_l_error, h_m_l_read, h_m_law, h_in_Slots, h_a_Slotsu_check_slot, h_a_Slotsu__getitemu_⟩ := (show Px2 K from of_decide_eq_true e2)
  obtain ⟨e3, e⟩ := He.ba e
  obtain ⟨h_a_Slotsu__setitemu_, h_a_Slotsu__lenu_, h_x_NoSize, h_kp_NoSize, h_sb_NoSize, h_tc_NoSize, h_x_Outside, h_kp_Outside, h_sb_Outside, h_tc_Outside, h_pg_Slots, h_hd_Slots⟩ := (show Px3 K from of_decide_eq_true e3)
  obtain ⟨e4, e⟩ := He.ba e
  obtain ⟨h_po_Slots, h_sa_Slots, h_mk_Slots, h_ii_Slots, h_kp_Slots, h_nq_Slots, h_i_Slotsu_check_slot, h_i_Slotsu__getitemu_, h_fi_Slotsu__getitemu_, h_i_Slotsu__setitemu_, h_i_Slotsu__lenu_, h_kt_NoSize_in_NoForm⟩ := (show Px4 K from of_decide_eq_true e4)
  obtain ⟨e5, e⟩ := He.ba e
  obtain ⟨h_kt_NoSize_in_NoCounter, h_kt_NoSize_in_NoScheme, h_kt_NoSize_in_NoSize, h_kt_NoSize_in_NoRing, h_kt_NoSize_in_Outside, h_kt_NoSize_in_NoRun, h_kt_NoSize_in_NoSet, h_kt_NoSize_in_TooLong, h_kt_NoSize_in_VE, h_sb_RingError, h_hd_RingError, h_tc_RingError⟩ := (show Px5 K from of_decide_eq_true e5)
  obtain ⟨e6, e⟩ := He.ba e
  obtain ⟨h_sr_NoSize, h_ecg_NoSize, h_eck_NoSize, h_hd_NoSize, h_eca_NoSize, h_ecn, h_ect, h_ecm_NoSize, h_kt_Outside_in_NoForm, h_kt_Outside_in_NoCounter, h_kt_Outside_in_NoScheme, h_kt_Outside_in_NoSize⟩ := (show Px6 K from of_decide_eq_true e6)
  obtain ⟨e7, e⟩ := He.ba e
  obtain ⟨h_kt_Outside_in_NoRing, h_kt_Outside_in_Outside, h_kt_Outside_in_NoRun, h_kt_Outside_in_NoSet, h_kt_Outside_in_TooLong, h_kt_Outside_in_VE, h_sr_Outside, h_ecg_Outside, h_eck_Outside, h_hd_Outside, h_eca_Outside, h_ecm_Outside⟩ := (show Px7 K from of_decide_eq_true e7)
  obtain ⟨fd_is_whole, h_F_is_whole⟩ := Hd.fnOf c 0 (d := df0) rfl
  obtain ⟨fd_is_whole_from, h_F_is_whole_from⟩ := Hd.fnOf c 1 (d := df1) rfl
  obtain ⟨fd_Slotsu__initu_, h_F_Slotsu__initu_⟩ := Hd.fnOf c 2 (d := df2) rfl
  obtain ⟨fd_Slotsu_check_slot, h_F_Slotsu_check_slot⟩ := Hd.fnOf c 3 (d := df3) rfl
  obtain ⟨fd_Slotsu__getitemu_, h_F_Slotsu__getitemu_⟩ := Hd.fnOf c 4 (d := df4) rfl
  obtain ⟨fd_Slotsu__setitemu_, h_F_Slotsu__setitemu_⟩ := Hd.fnOf c 5 (d := df5) rfl
  obtain ⟨fd_Slotsu__lenu_, h_F_Slotsu__lenu_⟩ := Hd.fnOf c 6 (d := df6) rfl
  obtain ⟨fd_l_source, h_F_l_source⟩ := Hd.fnOf c 7 (d := df7) rfl
  obtain ⟨fd_l_draw, h_F_l_draw⟩ := Hd.fnOf c 8 (d := df8) rfl
  obtain ⟨fd_l_pick, h_F_l_pick⟩ := Hd.fnOf c 9 (d := df9) rfl
  obtain ⟨fd_l_kind, h_F_l_kind⟩ := Hd.fnOf c 10 (d := df10) rfl
  obtain ⟨fd_l_lay, h_F_l_lay⟩ := Hd.fnOf c 11 (d := df11) rfl
  obtain ⟨fd_l_error, h_F_l_error⟩ := Hd.fnOf c 12 (d := df12) rfl
  obtain ⟨fd_l_read, h_F_l_read⟩ := Hd.fnOf c 13 (d := df13) rfl
  obtain ⟨fd_law, h_F_law⟩ := Hd.fnOf c 14 (d := df14) rfl
  have hfl : fa = He.ga K "law" := by
    have e := hfa.symm.trans (PySem.W.mg_of X G h_m_law)
    cases e
    rfl
  subst hfl
  exact all_mk X G hfa h_n_ValueError h_n_abs h_n_bool h_n_int h_n_isinstance h_n_len h_n_max h_n_min h_n_range h_n_zip h_m_MOST_SLOTS h_m_NoSize h_m_Outside h_m_Slots h_n_Slots_laid h_m_RingError h_m_NoForm h_m_NoCounter h_m_NoScheme h_m_NoRing h_m_NoRun h_m_NoSet h_m_TooLong h_m_is_whole h_m_is_whole_from h_m_l_source h_m_l_draw h_m_l_pick h_m_l_kind h_m_l_lay h_m_l_error h_m_l_read h_m_law h_in_Slots h_a_Slotsu_check_slot h_a_Slotsu__getitemu_ h_a_Slotsu__setitemu_ h_a_Slotsu__lenu_ h_x_NoSize h_kp_NoSize h_sb_NoSize h_tc_NoSize h_x_Outside h_kp_Outside h_sb_Outside h_tc_Outside h_pg_Slots h_hd_Slots h_po_Slots h_sa_Slots h_mk_Slots h_ii_Slots h_kp_Slots h_nq_Slots h_F_is_whole h_F_is_whole_from h_F_Slotsu__initu_ h_i_Slotsu_check_slot h_F_Slotsu_check_slot h_F_Slotsu__getitemu_ h_F_Slotsu__setitemu_ h_F_Slotsu__lenu_ h_F_l_source h_F_l_draw h_F_l_pick h_F_l_kind h_F_l_lay h_F_l_error h_F_l_read h_F_law h_i_Slotsu__getitemu_ h_fi_Slotsu__getitemu_ h_i_Slotsu__setitemu_ h_i_Slotsu__lenu_ h_kt_NoSize_in_NoForm h_kt_NoSize_in_NoCounter h_kt_NoSize_in_NoScheme h_kt_NoSize_in_NoSize h_kt_NoSize_in_NoRing h_kt_NoSize_in_Outside h_kt_NoSize_in_NoRun h_kt_NoSize_in_NoSet h_kt_NoSize_in_TooLong h_kt_NoSize_in_VE h_sb_RingError h_hd_RingError h_tc_RingError h_sr_NoSize h_ecg_NoSize h_eck_NoSize h_hd_NoSize h_eca_NoSize h_ecn h_ect h_ecm_NoSize h_kt_Outside_in_NoForm h_kt_Outside_in_NoCounter h_kt_Outside_in_NoScheme h_kt_Outside_in_NoSize h_kt_Outside_in_NoRing h_kt_Outside_in_Outside h_kt_Outside_in_NoRun h_kt_Outside_in_NoSet h_kt_Outside_in_TooLong h_kt_Outside_in_VE h_sr_Outside h_ecg_Outside h_eck_Outside h_hd_Outside h_eca_Outside h_ecm_Outside
end Pk14
open PySem PySem.W PySem.Calls PyProof.Rows
set_option maxRecDepth 100000 in
set_option maxHeartbeats 0 in
theorem PySem.Challenge.cw_ringindexes_k14_slots_read_and_laid_holds : PySem.Challenge.rw_ringindexes_k14_slots_read_and_laid.Holds := by
  w_on; o_law
  refine HandSHeadRun.head_any (r := Pk14.R) (q := (PySem.W.view Pk14.R.prog [25])) (H := Pk14.hk) (ob := Pk14.ob) (M := 200000) (loose := Pk14.loose) (d := (HandSHeadRun.topDef Pk14.R.prog 25)) (kwd := []) Pk14.ob_is
    (by kernel_rfl) (fun s => by kernel_rfl) Pk14.run (by kernel_rfl) (by kernel_rfl) (by kernel_rfl) (by rfl) (by first | assumption | decide +kernel) (by decide +kernel) ⟨rfl, rfl, rfl, rfl, rfl, by decide +kernel⟩ ?hw ?hc
  case hw => w_witness2
  case hc =>
    refine L2.walk_ofE (l := PySem.Challenge.rw_ringindexes_k14_slots_read_and_laid) (n := 63) (k := 7) (x := "_law_script") (CX := L2.CX0) rfl (by decide) (by kernel_rfl) ⟨rfl, by decide, by decide⟩ ?F (fun _ _ _ _ z => z)
    intro w mg fa h Y G hmg0
    obtain ⟨K, KX, c⟩ := Y
    have hmg : mg ("law" : PySem.Str) = some (.ref fa) := by
      have e : (HandSHeadRun.topDef Pk14.R.prog 25).name = ("law" : PySem.Str) := by kernel_rfl
      rw [← e]
      exact hmg0
    obtain ⟨fd, hb, hF⟩ := Pk14.facts (P := PySem.Challenge.rw_ringindexes_k14_slots_read_and_laid) (w := w) KX G hmg c
    exact ⟨K, fd, Pk14.sp_law K, KX, hb, fun H a ns hl _ hS => ⟨a, ns, rfl, hS, hl, fun _ => rfl⟩, hF⟩
