import PyProof.Rows.All
import Wide.All
import OpenK.AllK
import Wide.FinOn
import PyProof.EqAt
import PyProof.EqKinds
import PyProof.TupleCall
import PyProof.InstNe
import KE.RegKIsAll
import HandS.ForMost
import HandS.Wide
import HandS.IsInst
import HandS.OwnEq
import HandS.Star
import HandS.Property
import HandS.Defaults
import HandS.WordsExc
import HandS.ExcOwn
import HandS.TupLe
import HandS.SortKw
import KE.KMinBuiltin
import HandS.TryOnly
import HandS.ExcIs
import HandS.CallLocal
import HandS.Walk
import HandS.StrMore
import HandS.FStr
import HandS.NoneIn
import HandS.SetFor
import PyProof.StrLaws
import HandS.Small
import HandS.StrSplit
import HandS.MakeKwOnly
import HandS.More
import HandS.WideBits
import KE.KSortKey
import HandS.HotCalls
import HandS.SortInts
import KE.KMathGC
import HandS.Conv
import HandS.Head0
import HandS.Head1
import HandS.Head2
import HandS.Head3
import HandS.HeadEnd
import HandS.HeadHook1
import HandS.HeadHook2
import HandS.HeadHook3
import PySem.Challenge.RW_ringindexes_k33_sets_refused
set_option Elab.async false
set_option linter.all false
set_option maxRecDepth 100000
set_option maxHeartbeats 40000000
/-! ## steps of readings: each lemma opens one construct -/
namespace Rd
open PySem PySem.Spec PyProof.Rows L2

section
variable {σ : L2.St} {H : Hp} {Q : VK} {D : Ends} {K : PySem.W.Frag}
theorem seq {t u : TS} (h : t { D with nx := u D } σ H) : tSeq t u D σ H := h
theorem next (h : D.nx σ H) : tNext D σ H := h
theorem drop {te : TE} (h : te σ H fun _ H1 => D.nx σ H1) : tDrop te D σ H := h
theorem ret {te : TE} (h : te σ H D.rt) : tRet te D σ H := h
theorem retN (h : D.rt .non H) : tRetN D σ H := h
theorem brk (h : D.bk σ H) : tBreak D σ H := h
theorem cont (h : D.ct σ H) : tCont D σ H := h
theorem ifS {c : TT} {t u : TS} (h : c σ H fun b H1 => if b = true then t D σ H1 else u D σ H1) : tIfS c t u D σ H := h
theorem asg {te : TE} {g : TG} (h : te σ H fun x H1 => g x σ H1 D.nx) : tAsg te g D σ H := h
theorem name {i : Nat} {v : V} {q : L2.St → Hp → Prop} (h : q (σ.set i (some v)) H) : gName i v σ H q := h
theorem par {i j : Nat} {ta : TA} (h : ta σ H fun vs H1 => ∃ v w, vs = [v, w] ∧ D.nx ((σ.set i (some v)).set j (some w)) H1) : tPar i j ta D σ H := h
theorem par2 {i j : Nat} {v w : V} (h : D.nx ((σ.set i (some v)).set j (some w)) H) : ∃ v' w', [v, w] = [v', w'] ∧ D.nx ((σ.set i (some v')).set j (some w')) H := ⟨v, w, rfl, h⟩
theorem var {i : Nat} {v : V} (e : σ[i]? = some (some v)) (h : Q v H) : tVar i σ H Q := ⟨v, e, h⟩
theorem c {v : V} (h : Q v H) : tC v σ H Q := h
theorem op {r : R2} {ta tb : TE} (h : ta σ H fun x H1 => tb σ H1 fun y H2 => r x y H2 Q) : tOp r ta tb σ H Q := h
theorem un {r : V → Hp → VK → Prop} {ta : TE} (h : ta σ H fun x H1 => r x H1 Q) : tUn r ta σ H Q := h
theorem i0 {g : Int → Int → V} {i j : Int} (h : Q (g i j) H) : rI0 g (.int i) (.int j) H Q := ⟨i, j, rfl, rfl, h⟩
theorem iC {C : Int → Int → Prop} {g : Int → Int → V} {i j : Int} (e : C i j) (h : Q (g i j) H) : rI C g (.int i) (.int j) H Q := ⟨i, j, rfl, rfl, e, h⟩
theorem iU {g : Int → V} {i : Int} (h : Q (g i) H) : rU g (.int i) H Q := ⟨i, rfl, h⟩
theorem eqS {x y : V} (e : scal x y = true) (h : Q (.bl (decide (x = y))) H) : rEq x y H Q := ⟨e, h⟩
theorem neS {x y : V} (e : scal x y = true) (h : Q (.bl (!decide (x = y))) H) : rNe x y H Q := ⟨e, h⟩
theorem addS {i j : Str} (e : i.length + j.length ≤ sizeLine) (h : Q (.str (i ++ j)) H) : ∃ a b, V.str i = .str a ∧ V.str j = .str b ∧ a.length + b.length ≤ sizeLine ∧ Q (.str (a ++ b)) H := ⟨i, j, rfl, rfl, e, h⟩
theorem isN {x : V} (h : Q (.bl (decide (x = .non))) H) : V.non = .non ∧ Q (.bl (decide (x = .non))) H := ⟨rfl, h⟩
theorem notN {x : V} (h : Q (.bl (!decide (x = .non))) H) : V.non = .non ∧ Q (.bl (!decide (x = .non))) H := ⟨rfl, h⟩
theorem chain {r r' : R2} {ta tb tc : TE} (h : ta σ H fun x H1 => tb σ H1 fun y H2 => r x y H2 fun z H3 => ∃ k, z = .bl k ∧ (if k = true then tc σ H3 fun w' H4 => r' y w' H4 Q else Q (.bl false) H3)) : tChain r r' ta tb tc σ H Q := h
theorem bl {k : Bool} {A : Bool → Prop} (h : A k) : ∃ c, V.bl k = .bl c ∧ A c := ⟨k, rfl, h⟩
theorem test {t : TE} {q : Bool → Hp → Prop} (h : t σ H fun x H' => ∃ k, x = .bl k ∧ q k H') : tTest t σ H q := h
theorem tb {t : TE} {q : Bool → Hp → Prop} (h : t σ H fun x H' => ∃ k, x = .bl k ∧ q k H') : tB t σ H q := h
theorem and {t u : TT} {q : Bool → Hp → Prop} (h : t σ H fun c H1 => if c = true then u σ H1 q else q false H1) : tAnd t u σ H q := h
theorem or {t u : TT} {q : Bool → Hp → Prop} (h : t σ H fun c H1 => if c = true then q true H1 else u σ H1 q) : tOr t u σ H q := h
theorem not {t : TT} {q : Bool → Hp → Prop} (h : t σ H fun c H1 => q (!c) H1) : tNot t σ H q := h
theorem andV {ta tb : TE} (h : ta σ H fun x H1 => ∃ c, x = .bl c ∧ if c = true then tb σ H1 Q else Q (.bl false) H1) : tAndV ta tb σ H Q := h
theorem orV {ta tb : TE} (h : ta σ H fun x H1 => ∃ c, x = .bl c ∧ if c = true then Q (.bl true) H1 else tb σ H1 Q) : tOrV ta tb σ H Q := h
theorem notV {ta : TE} (h : ta σ H fun x H1 => ∃ c, x = .bl c ∧ Q (.bl (!c)) H1) : tNotV ta σ H Q := h
theorem ifE {t : TT} {ta tb : TE} (h : t σ H fun c H1 => if c = true then ta σ H1 Q else tb σ H1 Q) : tIf t ta tb σ H Q := h
theorem nil {q : List V → Hp → Prop} (h : q [] H) : tNil σ H q := h
theorem cons {ta : TE} {tr : TA} {q : List V → Hp → Prop} (h : ta σ H fun x H1 => tr σ H1 fun xs H2 => q (x :: xs) H2) : tCons ta tr σ H q := h
theorem cB {r : List V → Hp → VK → Prop} {t : TA} (h : t σ H fun vs H1 => r vs H1 Q) : tCB r t σ H Q := h
theorem tup {t : TA} (h : t σ H fun xs H1 => xs.length ≤ sizeLine ∧ ∀ p, H1 p = none → Q (.ref p) (upd H1 p (.tup xs))) : tTup t σ H Q := h
theorem lst {t : TA} (h : t σ H fun xs H1 => xs.length ≤ sizeLine ∧ ∀ p, H1 p = none → Q (.ref p) (upd H1 p (.lst xs))) : tLst t σ H Q := h
theorem laid {xs : List V} {A : Addr → Prop} (e : xs.length ≤ 1000) (h : ∀ p, H p = none → A p) : xs.length ≤ sizeLine ∧ ∀ p, H p = none → A p := ⟨Nat.le_of_lt (small1000 e), h⟩
theorem call {sp : Sp} {dvs : List V} {E : XK} {t : TA} (h : t σ H fun vs H1 => sp (vs ++ dvs) H1 Q E) : tCall sp dvs E t σ H Q := h
theorem meth {C : Addr} {m : Str} {sp : Sp} {dvs : List V} {E : XK} {ta : TE} {t : TA} (h : ta σ H fun x H1 => ∃ a dx fs, x = .ref a ∧ H1 a = some (.ins C dx fs) ∧ fs.lookup m = none ∧ t σ H1 fun vs H2 => sp (x :: (vs ++ dvs)) H2 Q E) : tMeth C m sp dvs E ta t σ H Q := h
theorem meth2 {C a dx : Addr} {fs : List (Str × V)} {m : Str} {A : Prop} (e : H a = some (.ins C dx fs)) (l : fs.lookup m = none) (h : A) : ∃ a' dx fs, V.ref a = .ref a' ∧ H a' = some (.ins C dx fs) ∧ fs.lookup m = none ∧ A := ⟨a, dx, fs, rfl, e, l, h⟩
theorem make {C : Addr} {sp : Sp} {dvs : List V} {E : XK} {t : TA} (h : t σ H fun vs H1 => ∀ x dx, H1 x = none → H1 dx = none → dx ≠ x → sp (.ref x :: (vs ++ dvs)) (upd (upd H1 dx (.own x)) x (.ins C dx [])) (fun v H2 => v = .non ∧ Q (.ref x) H2) E) : tMake C sp dvs E t σ H Q := h
theorem fld {ta : TE} {f : Str} (h : ta σ H fun x H1 => ∃ a C dx fs v, x = .ref a ∧ H1 a = some (.ins C dx fs) ∧ Cls K C ∧ NoAttr K C f ∧ fs.lookup f = some v ∧ Q v H1) : tFld K ta f σ H Q := h
theorem fld2 {f : Str} {a C dx : Addr} {fs : List (Str × V)} {v : V} (e : H a = some (.ins C dx fs)) (k : Cls K C) (n : NoAttr K C f) (l : fs.lookup f = some v) (h : Q v H) :
    ∃ a' C' dx fs v, V.ref a = .ref a' ∧ H a' = some (.ins C' dx fs) ∧ Cls K C' ∧ NoAttr K C' f ∧ fs.lookup f = some v ∧ Q v H := ⟨a, C, dx, fs, v, rfl, e, k, n, l, h⟩
theorem sfld {ta tv : TE} {f : Str} (h : tv σ H fun y H1 => ta σ H1 fun x H2 => ∃ a C dx fs, x = .ref a ∧ H2 a = some (.ins C dx fs) ∧ Cls K C ∧ NoAttr K C f ∧ fs.length < 1000 ∧ D.nx σ (upd H2 a (.ins C dx (putF f y fs)))) : sFld K ta tv f D σ H := h
theorem gnil {q : L2.St → Hp → Prop} (h : q σ H) : gNil [] σ H q := ⟨rfl, h⟩
theorem gcons {t : TG} {u : TGs} {v : V} {r : List V} {q : L2.St → Hp → Prop} (h : t v σ H fun σ' H' => u r σ' H' q) : gCons t u (v :: r) σ H q := ⟨v, r, rfl, h⟩
theorem gtup {n : Nat} {t : TGs} {a : Addr} {xs : List V} {q : L2.St → Hp → Prop} (e : SqT K H a xs) (l : xs.length = n) (h : t xs σ H q) : gTup K n t (.ref a) σ H q := ⟨a, xs, rfl, e, l, h⟩
theorem fr {wi : TI} {g : TG} {tb : TS} (h : wi σ H fun J H1 => ∃ W : Nat → Nat → L2.St → Hp → Prop, (∃ m, W 0 m σ H1) ∧ ∀ i m σ H, W i m σ H →
    (J.stop i H ∧ D.nx σ H) ∨ (J.go i H ∧ ∃ N : L2.St → Hp → Prop, (∀ σ' H', N σ' H' → ∃ m', m' < m ∧ W (i + 1) m' σ' H') ∧ ∀ x H', J.yld i H x H' → g x σ H' fun σ2 H2 => tb { D with nx := N, ct := N, bk := D.nx } σ2 H2)) : tFor wi g tb D σ H := h
theorem rng1 {ta : TA} {R : It → Hp → Prop} (h : ta σ H fun vs H1 => ∃ j : Int, vs = [.int j] ∧ -(2 ^ 62) ≤ j ∧ j < 2 ^ 62 ∧ R (Itr 0 j.toNat) H1) : iRng1 ta σ H R := h
theorem prop {C : Addr} {sp : Sp} {dvs : List V} {E : XK} {ta : TE} (h : ta σ H fun x H1 => ∃ a dx fs, x = .ref a ∧ H1 a = some (.ins C dx fs) ∧ sp (.ref a :: dvs) H1 Q E) : tProp C sp dvs E ta σ H Q := h
theorem aug {i : Nat} {te : TE} {ti : TIp} {x : V} (e : σ[i]? = some (some x)) (h : te σ H fun y H1 => ti x y H1 fun z H2 => D.nx (σ.set i (some z)) H2) : tAug i te ti D σ H := ⟨x, e, h⟩
theorem ipI {f : Int → Int → Int} {i j : Int} (h : Q (.int (f i j)) H) : L2.ipI f (.int i) (.int j) H Q := ⟨i, j, rfl, rfl, h⟩
theorem ixL {a : Addr} {xs : List V} {i : Int} {v : V} (e : SqL K H a xs) (l : atI xs i = some v) (h : Q v H) : rIxL K (.ref a) (.int i) H Q := ⟨a, xs, i, v, rfl, rfl, e, l, h⟩
theorem ixT {a : Addr} {xs : List V} {i : Int} {v : V} (e : SqT K H a xs) (l : atI xs i = some v) (h : Q v H) : rIxT K (.ref a) (.int i) H Q := ⟨a, xs, i, v, rfl, rfl, e, l, h⟩
theorem setL {a : Addr} {xs : List V} {k : Int} {j : Nat} {v : V} {q : Hp → Prop} (e : H a = some (.lst xs)) (l : ixN xs.length k = some j) (h : q (upd H a (.lst (xs.set j v)))) : rSetL (.ref a) (.int k) v H q := ⟨a, xs, k, j, rfl, rfl, e, l, h⟩
theorem sub {to ti : TE} {t : TSet} {v : V} {q : L2.St → Hp → Prop} (h : to σ H fun o H1 => ti σ H1 fun i H2 => t o i v H2 fun H3 => q σ H3) : gSub to ti t v σ H q := h
theorem lenQ {a : Addr} {xs : List V} (e : SqL K H a xs ∨ SqT K H a xs) (h : Q (.int xs.length) H) : ∃ p ys, [V.ref a] = [.ref p] ∧ (SqL K H p ys ∨ SqT K H p ys) ∧ Q (.int ys.length) H := ⟨a, xs, rfl, e, h⟩
theorem absI {i : Int} (h : Q (.int (if i < 0 then -i else i)) H) : ∃ j, [V.int i] = [.int j] ∧ Q (.int (if j < 0 then -j else j)) H := ⟨i, rfl, h⟩
theorem intI {i : Int} (h : Q (.int i) H) : (∃ j, [V.int i] = [.int j] ∧ Q (.int j) H) ∨ ∃ k, [V.int i] = [.bl k] ∧ Q (.int (if k then 1 else 0)) H := .inl ⟨i, rfl, h⟩
theorem ite {c A B : Prop} [Decidable c] (h1 : c → A) (h2 : ¬ c → B) : if c then A else B := by
  by_cases h : c
  · rw [if_pos h]; exact h1 h
  · rw [if_neg h]; exact h2 h
theorem iteT {b : Bool} {A B : Prop} (e : b = true) (h : A) : if b = true then A else B := by rw [if_pos e]; exact h
theorem iteF {b : Bool} {A B : Prop} (e : b = false) (h : B) : if b = true then A else B := by rw [e]; exact h
theorem andB {c d : Bool} {t : TE} (h1 : ∀ Q' : VK, Q' (.bl d) H → t σ H Q') (h : Q (.bl (c && d)) H) : if c = true then t σ H Q else Q (.bl false) H := by
  cases c with
  | true => exact h1 Q h
  | false => exact h
theorem orB {c d : Bool} {t : TE} (h1 : ∀ Q' : VK, Q' (.bl d) H → t σ H Q') (h : Q (.bl (c || d)) H) : if c = true then Q (.bl true) H else t σ H Q := by
  cases c with
  | true => exact h
  | false => exact h1 Q h
end
theorem lput {f : Str} {v : V} {fs : List (Str × V)} {n : Nat} (h : fs.length + 1 < n) : (putF f v fs).length < n := Nat.lt_of_le_of_lt (by have := length_putF f v fs; omega) h
theorem lputs {f : Str} {v : V} {fs : List (Str × V)} {n k : Nat} (h : fs.length + (k + 1) < n) : (putF f v fs).length + k < n := Nat.lt_of_le_of_lt (by have := length_putF f v fs; omega) h
theorem ty_tup {K : PySem.W.Frag} {H : Hp} {a : Addr} {xs : List V} (e : H a = some (.tup xs)) : TyX K H (.ref a) (.type "tuple") := .base (.tup e)
theorem ty_lst {K : PySem.W.Frag} {H : Hp} {a : Addr} {xs : List V} (e : H a = some (.lst xs)) : TyX K H (.ref a) (.type "list") := .base (.lst e)
section
variable {K : PySem.W.Frag}
theorem kit_int_int : PySem.W.kitOne K (.type "int") (.type "int") = some true := kit_ty (by decide +kernel)
theorem kit_bool_int : PySem.W.kitOne K (.type "bool") (.type "int") = some true := kit_ty (by decide +kernel)
theorem kit_str_int : PySem.W.kitOne K (.type "str") (.type "int") = some false := kit_ty (by decide +kernel)
theorem kit_none_int : PySem.W.kitOne K (.type "NoneType") (.type "int") = some false := kit_ty (by decide +kernel)
theorem kit_tuple_int : PySem.W.kitOne K (.type "tuple") (.type "int") = some false := kit_ty (by decide +kernel)
theorem kit_list_int : PySem.W.kitOne K (.type "list") (.type "int") = some false := kit_ty (by decide +kernel)
theorem kit_dict_int : PySem.W.kitOne K (.type "dict") (.type "int") = some false := kit_ty (by decide +kernel)
theorem kit_int_bool : PySem.W.kitOne K (.type "int") (.type "bool") = some false := kit_ty (by decide +kernel)
theorem kit_bool_bool : PySem.W.kitOne K (.type "bool") (.type "bool") = some true := kit_ty (by decide +kernel)
theorem kit_str_bool : PySem.W.kitOne K (.type "str") (.type "bool") = some false := kit_ty (by decide +kernel)
theorem kit_str_str : PySem.W.kitOne K (.type "str") (.type "str") = some true := kit_ty (by decide +kernel)
theorem kit_int_str : PySem.W.kitOne K (.type "int") (.type "str") = some false := kit_ty (by decide +kernel)
end
end Rd


/-! ## the operators of own classes, as rules of the layer -/
namespace Own
open PySem PySem.Spec PyProof.Rows L2
section
variable {X : Cx} {pins : List (Addr × Obj)} {σ : L2.St} {H : Hp} {s : Shared}
/-- a value of the layer is never the sign of a declined operator -/
theorem not_declined {v : V} {u : Value} (r : RelV v u) : u ≠ .notImplemented := by
  intro e
  subst e
  cases v with
  | non => cases (show Value.notImplemented = Value.none from r)
  | bl b => cases (show Value.notImplemented = Value.bool b from r)
  | int i => obtain ⟨t, q⟩ := (show ∃ t, Value.notImplemented = Value.int i t from r); cases q
  | str i => obtain ⟨t, q⟩ := (show ∃ t, Value.notImplemented = Value.str i t from r); cases q
  | byt i => obtain ⟨t, q⟩ := (show ∃ t, Value.notImplemented = Value.bytes i t from r); cases q
  | flt i => obtain ⟨t, q⟩ := (show ∃ t, Value.notImplemented = Value.float i t from r); cases q
  | ref a => cases (show Value.notImplemented = Value.ref a from r)
  | ty n => cases (show Value.notImplemented = Value.type n from r)
theorem back {M : Model} {A : Around} {E : Value → Shared → Prop} {m : Sem Value} {Q : VK} (h : wpAny M A m (EP X pins σ Q) E s) : wpAny M A m (PySem.W.CmpBack (EP X pins σ Q)) E s :=
  wpAny_mono h (fun u s' q => by
    have n : u ≠ .notImplemented := by
      obtain ⟨z, H', I, r, _⟩ := q
      exact not_declined r
    cases u <;> first | exact q | exact absurd rfl n) fun _ _ e => e
/-- an instance as the library's rules ask for it -/
theorem inst {a C dx : Addr} {fs : List (Str × V)} (I : Inv X pins σ H s) (h : H a = some (.ins C dx fs)) : ∃ od, PySem.W.InstAt s.heap a (PySem.W.instObj C dx) C od := by
  obtain ⟨mA, J, _⟩ := ins_get I.hok h
  obtain ⟨od, J, _⟩ := J.look
  exact ⟨_, J⟩
/-- the type of any value, told without a step that matters -/
theorem typed {M : Model} {x : V} {u : Value} {t : Value} (I : Inv X pins σ H s) (r : RelV x u) (ty : TyX X.K H x t) : PySem.W.Looks M s.heap (typeOf u) t := by
  obtain ⟨P, Z, p, _⟩ := kit_of I r ty
  exact Z.ty M s.heap I.kIn p
end

/-- an own method behind an operator -/
structure Sp1 (K : PySem.W.Frag) (C : Addr) (m : Str) (f : Addr) : Prop where
  at_ : PySem.W.findIn K (.ref C) m = some (some (.ref f))
  fn : PySem.W.isFn K (.ref f) = true
/-- a two-place operator of an own class -/
structure Bin (K : PySem.W.Frag) (C f : Addr) (op : Operator) : Prop where
  first : PySem.W.selfFirst K C = true
  at_ : PySem.W.findIn K (.ref C) (PySem.dunder op.info.2) = some (some (.ref f))
  fn : PySem.W.isFn K (.ref f) = true
/-- .. beside a value of the built-in type T -/
structure BinT (K : PySem.W.Frag) (C f : Addr) (op : Operator) (T : String) : Prop where
  b : Bin K C f op
  r : ∃ rc, PySem.W.findIn K (.ref C) (dunderR op.info.2) = some rc ∧ (rc = none ∨ ∃ g : Addr, rc = some (.ref g))
  l1 : ∃ fo, PySem.W.findIn K (.type T) (PySem.dunder op.info.2) = some fo
  l2 : ∃ ro, PySem.W.findIn K (.type T) (dunderR op.info.2) = some ro
  sub : PySem.W.subIn K (.type T) (.ref C) = some false

def rSame (C : Addr) (sp : Sp) (E : XK) : R2 := fun x y H Q => ∃ a b dx dy fs gs, x = .ref a ∧ y = .ref b ∧ H a = some (.ins C dx fs) ∧ H b = some (.ins C dy gs) ∧ sp [.ref a, .ref b] H Q E
def rLeft (C : Addr) (T : String) (sp : Sp) (E : XK) : R2 := fun x y H Q => ∃ a dx fs, x = .ref a ∧ H a = some (.ins C dx fs) ∧ (∀ u, RelV y u → typeOf u = pure (.type T)) ∧ sp [.ref a, y] H Q E
def rCmp (K : PySem.W.Frag) (C : Addr) (sp : Sp) (E : XK) : R2 := fun x y H Q => ∃ a dx fs t, x = .ref a ∧ H a = some (.ins C dx fs) ∧ TyX K H y t ∧ PySem.W.notFirst K C t = true ∧ sp [.ref a, y] H Q E
def rOne (C : Addr) (sp : Sp) (E : XK) : V → Hp → VK → Prop := fun x H Q => ∃ a dx fs, x = .ref a ∧ H a = some (.ins C dx fs) ∧ sp [.ref a] H Q E

section
variable {X : Cx} {CX : CXT} {k : Nat} {f C : Addr} {fd : FuncData} {ps : List Str} {sp : Sp} {E : XK} {op : Operator} {cop : CmpOp} {T : String}
theorem run2 {pins : List (Addr × Obj)} {σ : L2.St} {H : Hp} {s : Shared} {Q : VK} {x y : V} {u v : Value} (F : FnOk X.prog X.w X.K X.mg X.base CX k f fd ps sp) (hr : Room k X.A) (hb : Binds X.K fd ps []) (hx : Passes CX X E)
    (I : Inv X pins σ H s) (rx : RelV x u) (ry : RelV y v) (h : sp [x, y] H Q E) : wpAny (model X.prog X.w) X.A (call (.ref f) [u, v]) (EP X pins σ Q) X.xe s :=
  run_fn (us := [u, v]) (vs := [x, y]) F hr hb .nil hx I (.cons rx (.cons ry .nil)) h
theorem opS (F : FnOk X.prog X.w X.K X.mg X.base CX k f fd ps sp) (hr : Room k X.A) (B : Bin X.K C f op) (hb : Binds X.K fd ps []) (hx : Passes CX X E) : OpR X (binaryOp op) (rSame C sp E) := by
  rintro pins s σ H x y u v Q I rx ry ⟨a, b, dx, dy, fs, gs, rfl, rfl, ha, hb', q⟩
  cases rx
  cases ry
  obtain ⟨od, J⟩ := inst I ha
  obtain ⟨od', J'⟩ := inst I hb'
  obtain ⟨m, hF⟩ := I.fr
  exact PySem.W.binop_K hF I.ok.mod.kin J J'.type B.first B.at_ B.fn (back (run2 (x := .ref a) (y := .ref b) F hr hb hx I rfl rfl q))
theorem opT (F : FnOk X.prog X.w X.K X.mg X.base CX k f fd ps sp) (hr : Room k X.A) (B : BinT X.K C f op T) (hb : Binds X.K fd ps []) (hx : Passes CX X E) : OpR X (binaryOp op) (rLeft C T sp E) := by
  rintro pins s σ H x y u v Q I rx ry ⟨a, dx, fs, rfl, ha, ty, q⟩
  cases rx
  obtain ⟨od, J⟩ := inst I ha
  obtain ⟨m, hF⟩ := I.fr
  obtain ⟨⟨b1, b2, b3⟩, ⟨rc, r1, r2⟩, ⟨fo, l1⟩, ⟨ro, l2⟩, sb⟩ := B
  exact PySem.W.ksp_binT hF I.ok.mod.kin J (ty _ ry) b1 b2 b3 r1 r2 l1 l2 sb (back (run2 (x := .ref a) F hr hb hx I rfl ry q))
theorem iopT (F : FnOk X.prog X.w X.K X.mg X.base CX k f fd ps sp) (hr : Room k X.A) (h1 : PySem.W.selfFirst X.K C = true) (h2 : Sp1 X.K C (dunderI op.info.2) f) (hb : Binds X.K fd ps []) (hx : Passes CX X E) :
    OpR X (inplaceOp op) (fun x y H Q => ∃ a dx fs, x = .ref a ∧ H a = some (.ins C dx fs) ∧ sp [.ref a, y] H Q E) := by
  rintro pins s σ H x y u v Q I rx ry ⟨a, dx, fs, rfl, ha, q⟩
  cases rx
  obtain ⟨od, J⟩ := inst I ha
  obtain ⟨m, hF⟩ := I.fr
  exact PySem.W.ksp_inplace hF I.ok.mod.kin J h1 h2.at_ h2.fn (back (run2 (x := .ref a) F hr hb hx I rfl ry q))
theorem neg (F : FnOk X.prog X.w X.K X.mg X.base CX k f fd ps sp) (hr : Room k X.A) (B : Sp1 X.K C "__neg__" f) (hb : Binds X.K fd ps []) (hx : Passes CX X E) : UnR X (unaryOp .USub) (rOne C sp E) := by
  rintro pins s σ H x u Q I rx ⟨a, dx, fs, rfl, ha, q⟩
  cases rx
  obtain ⟨od, J⟩ := inst I ha
  obtain ⟨m, hF⟩ := I.fr
  exact PySem.W.ksp_neg hF I.ok.mod.kin J B.at_ B.fn (run_fn (us := [.ref a]) (vs := [.ref a]) F hr hb .nil hx I (.cons rfl .nil) q)
theorem cmp (F : FnOk X.prog X.w X.K X.mg X.base CX k f fd ps sp) (hr : Room k X.A) (B : Sp1 X.K C (cmpInfo cop).2.1 f) (hb : Binds X.K fd ps []) (hx : Passes CX X E)
    (ho : ∀ a b, compareOp cop a b = richCompare cop a b := by intro _ _; rfl) : OpR X (compareOp cop) (rCmp X.K C sp E) := by
  rintro pins s σ H x y u v Q I rx ry ⟨a, dx, fs, t, rfl, ha, ty, nf, q⟩
  cases rx
  obtain ⟨od, J⟩ := inst I ha
  obtain ⟨m, hF⟩ := I.fr
  rw [ho]
  exact PySem.W.cmp_K hr.units0 hF I.ok.mod.kin J (typed I ry ty) nf B.at_ B.fn (back (run2 (x := .ref a) F hr hb hx I rfl ry q))
/-- o[i] by the own __getitem__ -/
theorem item (F : FnOk X.prog X.w X.K X.mg X.base CX k f fd ps sp) (hr : Room k X.A) (B : Sp1 X.K C "__getitem__" f) (hq : PySem.W.noSeq X.K C = true) (hb : Binds X.K fd ps []) (hx : Passes CX X E) :
    OpR X getItem (fun x y H Q => ∃ a dx fs, x = .ref a ∧ H a = some (.ins C dx fs) ∧ sp [.ref a, y] H Q E) := by
  rintro pins s σ H x y u v Q I rx ry ⟨a, dx, fs, rfl, ha, q⟩
  cases rx
  obtain ⟨od, J⟩ := inst I ha
  obtain ⟨m, hF⟩ := I.fr
  exact PySem.W.getItem_K hF I.ok.mod.kin J hq B.at_ B.fn (run2 (x := .ref a) F hr hb hx I rfl ry q)
/-- x in o by the own __contains__, which gives a bool -/
theorem isin (F : FnOk X.prog X.w X.K X.mg X.base CX k f fd ps sp) (hr : Room k X.A) (B : Sp1 X.K C "__contains__" f) (hb : Binds X.K fd ps []) (hx : Passes CX X E) :
    OpR X (compareOp .In) (fun x y H Q => ∃ a dx fs, y = .ref a ∧ H a = some (.ins C dx fs) ∧ sp [.ref a, x] H (fun v H' => ∃ b, v = .bl b ∧ Q (.bl b) H') E) := by
  rintro pins s σ H x y u v Q I rx ry ⟨a, dx, fs, rfl, ha, q⟩
  cases ry
  obtain ⟨od, J⟩ := inst I ha
  obtain ⟨m, hF⟩ := I.fr
  refine PySem.W.in_K hF I.ok.mod.kin J B.at_ B.fn (wpAny_mono (run2 (x := .ref a) F hr hb hx I rfl rx q) (fun r s' hq => ?_) fun _ _ e => e)
  obtain ⟨z, H', I', rz, b, rfl, q'⟩ := hq
  cases rz
  exact wpAny_truthy_bool ⟨.bl b, H', I', rfl, q'⟩
/-- truth by the own __bool__ -/
theorem truth (F : FnOk X.prog X.w X.K X.mg X.base CX k f fd ps sp) (hr : Room k X.A) (B : Sp1 X.K C "__bool__" f) (hb : Binds X.K fd ps []) (hx : Passes CX X E) :
    TruR X (fun x H Q => ∃ a dx fs, x = .ref a ∧ H a = some (.ins C dx fs) ∧ sp [.ref a] H (fun v H' => ∃ b, v = .bl b ∧ Q b H') E) := by
  rintro pins s σ H x u Q I rx ⟨a, dx, fs, rfl, ha, q⟩
  cases rx
  obtain ⟨od, J⟩ := inst I ha
  obtain ⟨m, hF⟩ := I.fr
  refine PySem.W.truthy_K hF I.ok.mod.kin J B.at_ B.fn (wpAny_mono (run_fn (us := [.ref a]) (vs := [.ref a]) F hr hb .nil hx I (.cons rfl .nil) q) (fun r s' hq => ?_) fun _ _ e => e)
  obtain ⟨z, H', I', rz, b, rfl, q'⟩ := hq
  cases rz
  exact ⟨H', I', q'⟩
end
end Own
/-! ## int op own: the reflected operator; != by the inherited rule over the own ==; len; a call of an instance -/
namespace Own
open PySem PySem.Spec PyProof.Rows
section
variable {prog : Program} {w : World} {A : Around} {E : Value → Shared → Prop} {s : Shared} {K : PySem.W.Frag} {x C dx f : Addr} {od : Option Obj}
theorem decl_add {i : Int} {t : Tok} {Q : Shared → Prop} (h : s.heap.get? x = some (PySem.W.instObj C dx)) (hq : Q s) :
    wpAny (model prog w) A (Builtin.«int.__add__» ⟨[.int i t, .ref x], []⟩) (fun fin s' => ∃ v, fin = .done (.ret v) ∧ v = .notImplemented ∧ Q s') E s := by
  obtain ⟨hp, g, d, tk, os⟩ := s
  wp_walk using wpAny_load h
  exact ⟨_, rfl, rfl, hq⟩
theorem decl_sub {i : Int} {t : Tok} {Q : Shared → Prop} (h : s.heap.get? x = some (PySem.W.instObj C dx)) (hq : Q s) :
    wpAny (model prog w) A (Builtin.«int.__sub__» ⟨[.int i t, .ref x], []⟩) (fun fin s' => ∃ v, fin = .done (.ret v) ∧ v = .notImplemented ∧ Q s') E s := by
  obtain ⟨hp, g, d, tk, os⟩ := s
  wp_walk using wpAny_load h
  exact ⟨_, rfl, rfl, hq⟩
theorem decl_mul {i : Int} {t : Tok} {Q : Shared → Prop} (h : s.heap.get? x = some (PySem.W.instObj C dx)) (hq : Q s) :
    wpAny (model prog w) A (Builtin.«int.__mul__» ⟨[.int i t, .ref x], []⟩) (fun fin s' => ∃ v, fin = .done (.ret v) ∧ v = .notImplemented ∧ Q s') E s := by
  obtain ⟨hp, g, d, tk, os⟩ := s
  wp_walk using wpAny_load h
  exact ⟨_, rfl, rfl, hq⟩
end
end Own
namespace Own
open PySem PySem.Spec PyProof.Rows
section
variable {prog : Program} {w : World} {A : Around} {E : Value → Shared → Prop} {s : Shared} {K : PySem.W.Frag} {x C dx f f0 : Addr} {od : Option Obj} {op : Operator} {id : String}
/-- an int declines an operator beside an instance, then the instance's reflected one is asked -/
theorem binR {i : Int} {t : Tok} {Q : Value → Shared → Prop} (KX : K.In s.heap) (I : PySem.W.InstAt s.heap x (PySem.W.instObj C dx) C od) (hc : PySem.W.selfFirst K C = true)
    (h0 : PySem.W.findIn K (.ref C) (PySem.dunder op.info.2) = some (some (.ref f0))) (h1 : PySem.W.findIn K (.ref C) (dunderR op.info.2) = some (some (.ref f))) (hf : PySem.W.isFn K (.ref f) = true)
    (hsub : PySem.W.subIn K (.ref C) (.type "int") = some false) (hfill : fillsNumberSlot (.type "int") op.info.2 = pure true) (slot : Slot "int" (PySem.dunder op.info.2) id)
    (decl : wpAny (model prog w) A (call (.builtin id) [.int i t, .ref x]) (fun v s' => v = .notImplemented ∧ s'.heap = s.heap ∧ s'.gens = s.gens ∧ s'.drawn = s.drawn ∧ s'.os = s.os ∧ s'.toks = s.toks) E s)
    (h : wpAny (model prog w) A (call (.ref f) [.ref x, .int i t]) (PySem.W.CmpBack Q) E s) : wpAny (model prog w) A (binaryOp op (.int i t) (.ref x)) Q E s := by
  obtain ⟨cd, rest, hcd, hm⟩ := PySem.W.ksp_first hc
  rcases hi : op.info with ⟨sym, nm⟩
  rw [hi] at h0 h1 hfill slot
  dsimp only at h0 h1 hfill slot
  have two := PySem.W.ksp_try KX I h1 hf h
  obtain ⟨hh, g, d, tt, os⟩ := s
  have L1 : PySem.W.Looks (model prog w) hh (typeOf (.ref x)) (.ref C) := I.type
  have L3 : PySem.W.Looks (model prog w) hh (fillsNumberSlot (.ref C) nm) true := PySem.W.fills_K KX hcd hm h0
  have L5 : PySem.W.Looks (model prog w) hh (isSubtype (.ref C) (.type "int")) false := PySem.W.looks_subIn KX hsub
  have hne : (Value.type "int" == Value.ref C) = false := Bool.eq_false_iff.mpr fun q => by cases beq_iff_eq.mp q
  have hpy : numberSlotInPython (.type "int") nm = pure false := rfl
  have one : wpAny (model prog w) A (tryMethod (.int i t) (PySem.dunder nm) (.ref x)) (fun r s' => r = none ∧ s'.heap = hh ∧ s'.gens = g ∧ s'.drawn = d ∧ s'.os = os ∧ s'.toks = tt) E ⟨hh, g, d, tt, os⟩ :=
    wpAny_tryMethod_declines (T := "int") (typeIs_int _ i t) slot (wpAny_mono decl (fun v s' q => ⟨q.1, rfl, q.2⟩) fun _ _ e => e)
  simp only [binaryOp, hi]
  refine wpAny_holding (wpAny_bind ?_)
  unfold binaryOp1
  refine wpAny_bind (wpAny_typeOf (typeIs_int _ i t) (wpAny_bind (L1.at (wpAny_bind (wpAny_of_eq hfill ?_)))))
  simp only [hne, Bool.false_eq_true, if_false]
  refine wpAny_bind (L3.at ?_)
  simp only [Bool.and_self, if_true]
  refine wpAny_bind (L5.at ?_)
  simp only [Bool.false_eq_true, if_false, pure_bind, Bool.not_false, Bool.and_self, if_true, hpy]
  refine wpAny_bind (wpAny_mono one (fun r s' q => ?_) fun _ _ e => e)
  obtain ⟨h1, g1, d1, t1, o1⟩ := s'
  obtain ⟨rfl, q1, q2, q3, q4, q5⟩ := q
  dsimp only at q1 q2 q3 q4 q5
  subst q1 q2 q3 q4 q5
  dsimp only
  refine wpAny_bind (wpAny_mono two (fun r s' q => ?_) fun _ _ e => e)
  obtain ⟨v, rfl, q⟩ := q
  exact wpAny_bind (wpAny_rule (wpAny_pure (wpAny_pure q)))
end
end Own
namespace Own
open PySem PySem.Spec PyProof.Rows
theorem slot_ne : Slot "object" "__ne__" "object.__ne__" :=
  .of (T := "object") (name := "__ne__") (owner := "object") (n := "__ne__") (by rw [typeLookup_type, builtinLookup_eq_fast]; kernel_rfl) (by decide +kernel) (by decide +kernel) (by decide +kernel)
    (.inl (by decide +kernel)) (by rw [isSubtype_type]; kernel_rfl)
section
variable {prog : Program} {w : World} {A : Around} {E : Value → Shared → Prop} {s : Shared} {K : PySem.W.Frag} {x C dx f : Addr} {od : Option Obj} {b tb : Value}
theorem check_ne {M : Model} {Q : Unit → Shared → Prop} (I : PySem.W.InstAt s.heap x (PySem.W.instObj C dx) C od) (KX : K.In s.heap) (ho : PySem.W.subIn K (.ref C) (.type "object") = some true) (h : Q () s) :
    wpAny M A (checkBuiltinCall "object.__ne__" ⟨[.ref x, b], []⟩) Q E s := by
  have ha : argsOk "object.__ne__" ⟨[.ref x, b], []⟩ := by unfold argsOk; kernel_rfl
  have L : PySem.W.Looks M s.heap (isSubtype (.ref C) (.type "object")) true := PySem.W.looks_subIn KX ho
  have at_ := I.at_
  obtain ⟨hp, g, d, t, os⟩ := s
  simp only [checkBuiltinCall, F.cmpKind_ne, F.cmpSplit_ne]
  refine wpAny_bind ?_
  unfold isInstance
  repeat (first | (with_reducible refine wpAny_loadPart_at at_ ?_) | (with_reducible refine L.at ?_) | wp_step)
  exact h
/-- != of an instance whose class has an own == alone -/
theorem ne_K {Q : Value → Shared → Prop} (hu : A.units + 1 < cLine) (KX : K.In s.heap) (I : PySem.W.InstAt s.heap x (PySem.W.instObj C dx) C od) (hb : PySem.W.Looks (model prog w) s.heap (typeOf b) tb) (hn : PySem.W.notFirst K C tb = true)
    (h0 : PySem.W.findIn K (.ref C) "__ne__" = some (some (.builtin "object.__ne__"))) (h1 : PySem.W.findIn K (.ref C) "__eq__" = some (some (.ref f))) (hf : PySem.W.isFn K (.ref f) = true) (ho : PySem.W.subIn K (.ref C) (.type "object") = some true)
    (h : wpAny (model prog w) A.in1 (call (.ref f) [.ref x, b]) (fun v s' => ∃ c, v = .bool c ∧ Q (.bool (!c)) s') E s) : wpAny (model prog w) A (richCompare .NotEq (.ref x) b) Q E s := by
  have eqc : wpAny (model prog w) A.in1 (callSpecialIfBound? (.ref x) (Str.ofString "__eq__") [b]) (fun r s' => ∃ c, r = some (.bool c) ∧ Q (.bool (!c)) s') E s :=
    PySem.W.ifBound_K KX I h1 hf (wpAny_mono h (fun v s' ⟨c, e, q⟩ => ⟨c, by rw [e], q⟩) fun _ _ e => e)
  have body : wpAny (model prog w) A.in1 (Builtin.«object.__ne__» ⟨[.ref x, b], []⟩) (fun fin s' => ∃ v, fin = .done (.ret v) ∧ ∃ c, v = .bool (!c) ∧ Q (.bool (!c)) s') E s := by
    obtain ⟨hp, g, d, t, os⟩ := s
    unfold Builtin.«object.__ne__»
    repeat (first
      | with_reducible refine wpAny_cRoomFor hu ?_
      | (refine wpAny_bind (m := callSpecialIfBound? (.ref x) (Str.ofString "__eq__") [b]) (wpAny_mono eqc (fun r s' hr => ?_) fun _ _ e => e))
      | wp_step)
    obtain ⟨c, rfl, q⟩ := hr
    repeat (first
      | exact ⟨_, rfl, c, rfl, q⟩
      | exact wpAny_pure ⟨_, rfl, c, rfl, q⟩
      | (refine wpAny_bind (m := truthy (.bool _)) (wpAny_truthy_bool ?_))
      | wp_step)
  have one : wpAny (model prog w) A (tryCompare (.ref x) (Str.ofString "__ne__") b) (fun r s' => ∃ c, r = some (.bool (!c)) ∧ Q (.bool (!c)) s') E s := by
    unfold tryCompare
    refine wpAny_bind ?_
    simp only [callSpecialIfBound?, bindSpecialIfBound?]
    refine wpAny_holding (wpAny_bind (wpAny_bind (wpAny_bind (I.type.here ((PySem.W.looks_findIn KX h0).here ?_)))))
    have last : wpAny (model prog w) A (call (.builtin "object.__ne__") ([.ref x] ++ [b]) >>= fun v => pure (some v)) (fun a s' => wpAny (model prog w) A (match a with | some .notImplemented | none => pure none | some v => pure (some v)) (fun r s' => ∃ c, r = some (.bool (!c)) ∧ Q (.bool (!c)) s') E s') E s := by
      refine wpAny_bind (wpAny_call (codeAny_call_builtin slot_ne.plain F.cmpEntry_ne (check_ne I KX ho (wpAny_mono body (fun fin s' hv => ?_) fun _ _ e => e))))
      obtain ⟨v, rfl, c, rfl, q⟩ := hv
      exact wpAny_pure (wpAny_pure ⟨c, rfl, q⟩)
    refine wpAny_bind (wpAny_askSetting (wpAny_ite ?_))
    simp only [slot_ne.bind]
    split
    · exact wpAny_bind (wpAny_pure (wpAny_pure last))
    · exact wpAny_tryCatch (wpAny_bind (wpAny_pure (wpAny_pure last)))
  unfold richCompare
  simp only [PySem.oneThing_ref]
  refine wpAny_holding (wpAny_bind (wpAny_cRoomFor (Nat.lt_of_succ_lt hu) ?_))
  rw [cmpInfo_NotEq]
  dsimp only
  refine wpAny_bind (I.type.here (wpAny_bind (hb.here ?_)))
  have tail : wpAny (model prog w) A (tryCompare (.ref x) (Str.ofString "__ne__") b) (fun r s' => ∃ v, r = some v ∧ Q v s') E s :=
    wpAny_mono one (fun r s' ⟨c, e, q⟩ => ⟨_, e, q⟩) fun _ _ e => e
  split
  · rename_i q
    have e : PySem.W.subIn K tb (.ref C) = some false := by
      rcases Bool.or_eq_true_iff.mp hn with e | e
      · rw [beq_iff_eq.mp e] at q; simp at q
      · exact beq_iff_eq.mp e
    refine wpAny_bind ((PySem.W.looks_subIn KX e).here ?_)
    simp only [Bool.false_eq_true, if_false]
    refine wpAny_bind (wpAny_mono tail (fun r s' z => ?_) fun _ _ e => e)
    obtain ⟨v, rfl, hq⟩ := z
    exact wpAny_pure hq
  · refine wpAny_bind (wpAny_pure ?_)
    simp only [Bool.false_eq_true, if_false]
    refine wpAny_bind (wpAny_mono tail (fun r s' z => ?_) fun _ _ e => e)
    obtain ⟨v, rfl, hq⟩ := z
    exact wpAny_pure hq
end
end Own
namespace Own
open PySem PySem.Spec PyProof.Rows L2
section
variable {X : Cx} {CX : CXT} {k : Nat} {f f0 C : Addr} {fd : FuncData} {ps : List Str} {sp : Sp} {E : XK} {op : Operator}
/-- a call one step further in -/
theorem runIn {pins : List (Addr × Obj)} {σ : L2.St} {H : Hp} {s : Shared} {Q : VK} {us : List Value} {vs : List V} (F : FnOk X.prog X.w X.K X.mg X.base CX k f fd ps sp) (hr : Room (k + 1) X.A) (hb : Binds X.K fd ps []) (hx : Passes CX X E)
    (I : Inv X pins σ H s) (r : Vals vs us) (h : sp vs H Q E) : wpAny (model X.prog X.w) X.A.in1 (PySem.call (.ref f) us) (EP X pins σ Q) X.xe s := by
  have hl : us.length = ps.length := by rw [← r.length]; exact F.len _ _ _ _ h
  have hb' := hb s us I.kIn (by simpa using hl)
  rw [List.append_nil] at hb'
  refine wpAny_call (codeAny_mono (F.run X.A.in1 X.stack s H ⟨us, []⟩ us vs Q E hr.in1 I.env0.in1 hb' r h) fun r s' hq => ?_)
  cases r with
  | error e => exact hx pins σ H s e s' I hq
  | ok fl =>
    cases fl with
    | ret u => exact I.after hq
    | next => exact False.elim hq
    | brk => exact False.elim hq
    | cont => exact False.elim hq
structure BinR (K : PySem.W.Frag) (C f : Addr) (op : Operator) : Prop where
  first : PySem.W.selfFirst K C = true
  l : ∃ f0 : Addr, PySem.W.findIn K (.ref C) (PySem.dunder op.info.2) = some (some (.ref f0))
  at_ : PySem.W.findIn K (.ref C) (dunderR op.info.2) = some (some (.ref f))
  fn : PySem.W.isFn K (.ref f) = true
  sub : PySem.W.subIn K (.ref C) (.type "int") = some false
def rRight (C : Addr) (sp : Sp) (E : XK) : R2 := fun x y H Q => ∃ i a dx fs, x = .int i ∧ y = .ref a ∧ H a = some (.ins C dx fs) ∧ sp [.ref a, .int i] H Q E
theorem opR_of {id : String} {B : Builtin} (hfill : fillsNumberSlot (.type "int") op.info.2 = pure true) (slot : Slot "int" (PySem.dunder op.info.2) id) (entry : entryFor table id = some B) (args : ∀ a b : Value, argsOk id ⟨[a, b], []⟩)
    (decl : ∀ {prog : Program} {w : World} {A : Around} {E : Value → Shared → Prop} {s : Shared} {x C dx : Addr} {i : Int} {t : Tok} {Q : Shared → Prop}, s.heap.get? x = some (PySem.W.instObj C dx) → Q s →
      wpAny (model prog w) A (B ⟨[.int i t, .ref x], []⟩) (fun fin s' => ∃ v, fin = .done (.ret v) ∧ v = .notImplemented ∧ Q s') E s)
    (F : FnOk X.prog X.w X.K X.mg X.base CX k f fd ps sp) (hr : Room k X.A) (Z : BinR X.K C f op) (hb : Binds X.K fd ps []) (hx : Passes CX X E) : OpR X (binaryOp op) (rRight C sp E) := by
  rintro pins s σ H x y u v Q I rx ry ⟨i, a, dx, fs, rfl, rfl, ha, q⟩
  obtain ⟨t, rfl⟩ := (show ∃ t, u = Value.int i t from rx)
  cases ry
  obtain ⟨od, J⟩ := inst I ha
  obtain ⟨z1, ⟨f0, z2⟩, z3, z4, z5⟩ := Z
  exact binR I.kIn J z1 z2 z3 z4 z5 hfill slot (wpAny_call_entry slot (typeIs_int s i t) entry (wpAny_mono (decl (Q := fun s' => s'.heap = s.heap ∧ s'.gens = s.gens ∧ s'.drawn = s.drawn ∧ s'.os = s.os ∧ s'.toks = s.toks) J.at_ ⟨rfl, rfl, rfl, rfl, rfl⟩) (fun fin s' ⟨v, e, q⟩ => ⟨v, e, q⟩) fun _ _ e => e) (args _ _))
    (back (run2 (x := .ref a) (y := .int i) F hr hb hx I rfl ⟨t, rfl⟩ q))
theorem opRadd (F : FnOk X.prog X.w X.K X.mg X.base CX k f fd ps sp) (hr : Room k X.A) (Z : BinR X.K C f .Add) (hb : Binds X.K fd ps []) (hx : Passes CX X E) : OpR X (binaryOp .Add) (rRight C sp E) :=
  opR_of PySem.F.fills_int_add PySem.F.slot_int_add PySem.F.entry_int_add PySem.F.args_int_add_2 decl_add F hr Z hb hx
theorem opRsub (F : FnOk X.prog X.w X.K X.mg X.base CX k f fd ps sp) (hr : Room k X.A) (Z : BinR X.K C f .Sub) (hb : Binds X.K fd ps []) (hx : Passes CX X E) : OpR X (binaryOp .Sub) (rRight C sp E) :=
  opR_of PySem.F.fills_int_sub PySem.F.slot_int_sub PySem.F.entry_int_sub PySem.F.args_int_sub_2 decl_sub F hr Z hb hx
theorem opRmul (F : FnOk X.prog X.w X.K X.mg X.base CX k f fd ps sp) (hr : Room k X.A) (Z : BinR X.K C f .Mult) (hb : Binds X.K fd ps []) (hx : Passes CX X E) : OpR X (binaryOp .Mult) (rRight C sp E) :=
  opR_of PySem.F.fills_int_mul PySem.F.slot_int_mul PySem.F.entry_int_mul PySem.F.args_int_mul_2 decl_mul F hr Z hb hx
structure Ne (K : PySem.W.Frag) (C f : Addr) : Prop where
  ne : PySem.W.findIn K (.ref C) "__ne__" = some (some (.builtin "object.__ne__"))
  eq : PySem.W.findIn K (.ref C) "__eq__" = some (some (.ref f))
  fn : PySem.W.isFn K (.ref f) = true
  ob : PySem.W.subIn K (.ref C) (.type "object") = some true
def rNeOwn (K : PySem.W.Frag) (C : Addr) (sp : Sp) (E : XK) : R2 := fun x y H Q => ∃ a dx fs t, x = .ref a ∧ H a = some (.ins C dx fs) ∧ TyX K H y t ∧ PySem.W.notFirst K C t = true ∧ sp [.ref a, y] H (fun v H' => ∃ b, v = .bl b ∧ Q (.bl (!b)) H') E
theorem ne (F : FnOk X.prog X.w X.K X.mg X.base CX k f fd ps sp) (hr : Room (k + 1) X.A) (Z : Ne X.K C f) (hb : Binds X.K fd ps []) (hx : Passes CX X E) : OpR X (compareOp .NotEq) (rNeOwn X.K C sp E) := by
  rintro pins s σ H x y u v Q I rx ry ⟨a, dx, fs, t, rfl, ha, ty, nf, q⟩
  cases rx
  obtain ⟨od, J⟩ := inst I ha
  have hu : X.A.units + 1 < cLine := hu_of hr
  exact ne_K hu I.kIn J (typed I ry ty) nf Z.ne Z.eq Z.fn Z.ob (wpAny_mono (runIn (us := [.ref a, v]) (vs := [.ref a, y]) F hr hb hx I (.cons rfl (.cons ry .nil)) q) (fun r s' hq => by
    obtain ⟨z, H', I', rz, b, rfl, q'⟩ := hq
    cases rz
    exact ⟨b, rfl, .bl (!b), H', I', rfl, q'⟩) fun _ _ e => e)
/-- len(o) by the own __len__ -/
theorem len (F : FnOk X.prog X.w X.K X.mg X.base CX k f fd ps sp) (hr : Room (k + 1) X.A) (B : Sp1 X.K C "__len__" f) (hb : Binds X.K fd ps []) (hx : Passes CX X E) :
    CallR X (.builtin "len") (fun xs H Q => ∃ a dx fs, xs = [.ref a] ∧ H a = some (.ins C dx fs) ∧ sp [.ref a] H (fun v H' => ∃ n, v = .int n ∧ 0 ≤ n ∧ n < 2 ^ 63 ∧ Q (.int n) H') E) := by
  rintro pins s σ H xs us Q I rs ⟨a, dx, fs, rfl, ha, q⟩
  cases rs with
  | cons r rest =>
    cases rest
    cases r
    obtain ⟨od, J⟩ := inst I ha
    obtain ⟨m, hF⟩ := I.fr
    refine PySem.W.len_K hF I.ok.mod.kin J B.at_ B.fn (wpAny_mono (runIn (us := [.ref a]) (vs := [.ref a]) F hr hb hx I (.cons rfl .nil) q) (fun r s' hq => ?_) fun _ _ e => e)
    obtain ⟨z, H', I', rz, n, rfl, h0, h1, q'⟩ := hq
    obtain ⟨t, rfl⟩ := (show ∃ t, r = Value.int n t from rz)
    exact ⟨⟨h0, h1⟩, .int n, H', I'.tok _, ⟨_, rfl⟩, q'⟩
end
theorem fnR_of {P : Program} {w : World} {K : PySem.W.Frag} {mg : Str → Option Value} {base : Heap} {CX : CXT} {k : Nat} {f : Addr} {fd : FuncData} {ps : List Str} {sp : Sp} (F : FnOk P w K mg base CX k f fd ps sp) (hb : Binds K fd ps []) : FnR P w K mg base CX k f sp := by
  intro A outer s H us vs Q E hr e0 r h
  have KX : K.In s.heap := e0.mod.kin.keeps fun b o e => (e0.bs b o e).1
  have hl : us.length = ps.length := by rw [← r.length]; exact F.len _ _ _ _ h
  have hb' := hb s us KX (by simpa using hl)
  rw [List.append_nil] at hb'
  exact F.run A outer s H ⟨us, []⟩ us vs Q E hr e0 hb' r h
def rIop (C : Addr) (sp : Sp) (E : XK) : R2 := fun x y H Q => ∃ a dx fs, x = .ref a ∧ H a = some (.ins C dx fs) ∧ sp [.ref a, y] H Q E
theorem pip {X : Cx} {C : Addr} {sp : Sp} {E : XK} {op : Operator} (h : OpR X (inplaceOp op) (fun x y H Q => ∃ a dx fs, x = .ref a ∧ H a = some (.ins C dx fs) ∧ sp [.ref a, y] H Q E)) : PIp X op (rIop C sp E) :=
  fun pins s σ H x y v u Q I rx ry q => h pins s σ H x y v u Q I rx ry q
theorem iop2 {H : Hp} {Q : VK} {C a dx : Addr} {sp : Sp} {E : XK} {fs : List (Str × V)} {y : V} (ha : H a = some (.ins C dx fs)) (h : sp [.ref a, y] H Q E) : rIop C sp E (.ref a) y H Q := ⟨a, dx, fs, rfl, ha, h⟩
/-- f(e, ..), f an expression that gives an instance of C: the reading speaks of the heap alone -/
def tCallI (C : Addr) (sp : Sp) (E : XK) (tf : TE) (t : TA) : TE := fun σ H Q => tf σ H fun y H1 => ∃ a, y = V.ref a ∧ t σ H1 fun vs H2 => (∃ dx fs, H2 a = some (.ins C dx fs)) ∧ sp (V.ref a :: vs) H2 Q E
theorem pe_callI {X : Cx} {CX : CXT} {k : Nat} {g C : Addr} {sp : Sp} {E : XK} {fe e : Expr} {es : List Expr} {tf : TE} {t : TA} {pos : Pos} (hf : PE X fe tf) (c : StX.CallO X.K C g) (F : FnR X.prog X.w X.K X.mg X.base CX k g sp) (hr : Room k X.A) (hx : Passes CX X E) (ha : PA X (e :: es) t)
    (ht : eval (.Call fe (e :: es) [] pos) X.env = (do callWith pos (← eval fe X.env) [] (backTo pos (starEach (e :: es) X.env)) (backToKw pos (keywordEach [] X.env))) := by rfl)
    (he : starEach (e :: es) X.env = (false, eval e X.env) :: starEach es X.env := by rfl) (hpl : (backTo pos (starEach es X.env)).any (·.1) = false := by rfl) : PE X (.Call fe (e :: es) [] pos) (tCallI C sp E tf t) := by
  refine ⟨fun pins s σ H Q I h => Call_ (thn (hf.run pins s σ H _ I h) fun u s1 z => ?_) ht⟩
  obtain ⟨y, H1, I1, ry, a, rfl, q⟩ := z
  cases ry
  refine StX.callO_with (thn (ha.run pos pins s1 σ H1 _ I1 q) fun us s2 z2 => ?_) he hpl
  obtain ⟨vs, H2, I2, r, hi, q2⟩ := z2
  obtain ⟨od, J⟩ : ∃ od, PySem.W.InstAt s2.heap a (PySem.W.instObj C hi.choose) C od := inst I2 hi.choose_spec.choose_spec
  exact ⟨⟨C, _, od, J, rfl⟩, StX.run_callO c F hr hx I2 (.inr hi) r q2⟩
section
variable {σ : L2.St} {H : Hp} {Q : VK} {C : Addr} {sp : Sp} {E : XK}
theorem opS2 {a b dx dy : Addr} {fs gs : List (Str × V)} (ha : H a = some (.ins C dx fs)) (hb : H b = some (.ins C dy gs)) (h : sp [.ref a, .ref b] H Q E) : rSame C sp E (.ref a) (.ref b) H Q := ⟨a, b, dx, dy, fs, gs, rfl, rfl, ha, hb, h⟩
theorem opT2 {a dx : Addr} {fs : List (Str × V)} {T : String} {y : V} (ha : H a = some (.ins C dx fs)) (ty : ∀ u, RelV y u → typeOf u = pure (.type T)) (h : sp [.ref a, y] H Q E) : rLeft C T sp E (.ref a) y H Q := ⟨a, dx, fs, rfl, ha, ty, h⟩
theorem opR2 {a dx : Addr} {fs : List (Str × V)} {i : Int} (ha : H a = some (.ins C dx fs)) (h : sp [.ref a, .int i] H Q E) : rRight C sp E (.int i) (.ref a) H Q := ⟨i, a, dx, fs, rfl, rfl, ha, h⟩
theorem neg2 {a dx : Addr} {fs : List (Str × V)} (ha : H a = some (.ins C dx fs)) (h : sp [.ref a] H Q E) : rOne C sp E (.ref a) H Q := ⟨a, dx, fs, rfl, ha, h⟩
theorem cmp2 {K : PySem.W.Frag} {a dx : Addr} {fs : List (Str × V)} {y : V} {t : Value} (ha : H a = some (.ins C dx fs)) (ty : TyX K H y t) (nf : PySem.W.notFirst K C t = true) (h : sp [.ref a, y] H Q E) : rCmp K C sp E (.ref a) y H Q := ⟨a, dx, fs, t, rfl, ha, ty, nf, h⟩
theorem ne2 {K : PySem.W.Frag} {a dx : Addr} {fs : List (Str × V)} {y : V} {t : Value} (ha : H a = some (.ins C dx fs)) (ty : TyX K H y t) (nf : PySem.W.notFirst K C t = true) (h : sp [.ref a, y] H (fun v H' => ∃ b, v = .bl b ∧ Q (.bl (!b)) H') E) : rNeOwn K C sp E (.ref a) y H Q := ⟨a, dx, fs, t, rfl, ha, ty, nf, h⟩
theorem callI {tf : TE} {t : TA} (h : tf σ H fun y H1 => ∃ a, y = V.ref a ∧ t σ H1 fun vs H2 => (∃ dx fs, H2 a = some (.ins C dx fs)) ∧ sp (V.ref a :: vs) H2 Q E) : tCallI C sp E tf t σ H Q := h
theorem ty_int {i : Int} : ∀ u, RelV (.int i) u → typeOf u = pure (.type "int") := by
  rintro u ⟨t, rfl⟩
  rfl
end
end Own
/-! ## lists made of lists, and what == says of ints -/
namespace Rd
open PySem PySem.Spec PyProof.Rows L2
theorem lc {wi : TI} {g : TG} {tt : TT} {te : TE} {vs : List Nat} {σ : L2.St} {H : Hp} {Q : VK} (h : wi σ H fun J H1 => ∀ D, H1 D = none → ∃ W : Nat → Nat → Hp → Prop, (∃ m, W 0 m (upd H1 D (.lst []))) ∧ ∀ i m H, W i m H →
    (J.stop i H ∧ Q (.ref D) H) ∨ (J.go i H ∧ ∃ Nx : Hp → Prop, (∀ H', Nx H' → ∃ m', m' < m ∧ W (i + 1) m' H') ∧ ∀ x H', J.yld i H x H' → g x (wipe σ vs) H' fun σ2 H2 => wipe σ2 vs = wipe σ vs ∧ tt σ2 H2 fun b H3 =>
      if b = true then te σ2 H3 fun y H4 => ∃ acc, H4 D = some (.lst acc) ∧ acc.length < sizeLine ∧ Nx (upd H4 D (.lst (acc ++ [y]))) else Nx H3)) : tLc wi g tt te vs σ H Q := h
theorem il {K : PySem.W.Frag} {tl : TE} {σ : L2.St} {H : Hp} {R : It → Hp → Prop} (h : tl σ H fun x H1 => ∃ a, x = .ref a ∧ (∃ xs, SqL K H1 a xs) ∧ R (Itl K a) H1) : iList K tl σ H R := h
theorem same_upd {H H' : Hp} {D : Addr} {o : HO} (hD : H D = none) (S : Same H H') : Same H (upd H' D o) := fun b u e => by
  rw [upd_ne (ne_of_none e hD)]
  exact S b u e
/-- [e for x in l]: the items' images, where e makes the image and leaves what was tracked -/
theorem lcMap {α : Type} {items : List α} {inj res : α → V} {K : PySem.W.Frag} {a : Addr} {i : Nat} {te : TE} {vs : List Nat} {σ : L2.St} {H : Hp} {Q : VK} (hs : SqL K H a (items.map inj)) (hn : items.length ≤ 1000)
    (hw : ∀ x, wipe ((wipe σ vs).set i (some x)) vs = wipe σ vs)
    (elem : ∀ x ∈ items, ∀ H', Same H H' → ∀ R : VK, (∀ H'', Same H' H'' → R (res x) H'') → te ((wipe σ vs).set i (some (inj x))) H' R)
    (k : ∀ (p : Addr) (H' : Hp), H p = none → Same H H' → H' p = some (.lst (items.map res)) → Q (.ref p) H') :
    (∃ xs, SqL K H a xs) ∧ ∀ D, H D = none → ∃ W : Nat → Nat → Hp → Prop, (∃ m, W 0 m (upd H D (.lst []))) ∧ ∀ t m H, W t m H →
      ((Itl K a).stop t H ∧ Q (.ref D) H) ∨ ((Itl K a).go t H ∧ ∃ Nx : Hp → Prop, (∀ H', Nx H' → ∃ m', m' < m ∧ W (t + 1) m' H') ∧ ∀ x H', (Itl K a).yld t H x H' → (gName i) x (wipe σ vs) H' fun σ2 H2 => wipe σ2 vs = wipe σ vs ∧ tYes σ2 H2 fun b H3 =>
        if b = true then te σ2 H3 fun y H4 => ∃ acc, H4 D = some (.lst acc) ∧ acc.length < sizeLine ∧ Nx (upd H4 D (.lst (acc ++ [y]))) else Nx H3) := by
  refine ⟨⟨_, hs⟩, fun D hD => lc_list (xs := items.map inj) (fun t H' => Same H H' ∧ H' D = some (.lst ((items.take t).map res))) ⟨same_upd hD (Same.refl _), upd_same⟩ (fun t H' _ p => p.1.seq hs) (fun t x H' hx p => ?_) (fun H' p => ?_)⟩
  · obtain ⟨S, hl⟩ := p
    rw [List.getElem?_map] at hx
    cases e : items[t]? with
    | none => rw [e] at hx; cases hx
    | some y =>
      rw [e] at hx
      cases hx
      have hy : y ∈ items := List.mem_of_getElem? e
      have ht : t < items.length := (List.getElem?_eq_some_iff.mp e).1
      refine ⟨hw _, iteT (B := Same H H' ∧ H' D = some (.lst ((items.take (t + 1)).map res))) rfl (elem y hy H' S _ fun H'' S' => ⟨_, S' _ _ hl, ?_, ?_, ?_⟩)⟩
      · rw [List.length_map, List.length_take]
        exact small1000 (by omega)
      · exact same_upd hD (S.trans S')
      · rw [upd_same, List.take_add_one, e]
        simp
  · obtain ⟨S, hl⟩ := p
    rw [List.length_map, List.take_length] at hl
    exact k D H' hD S hl
theorem lcMapI {ns : List Int} {g : Int → Int} {K : PySem.W.Frag} {a : Addr} {i : Nat} {te : TE} {vs : List Nat} {σ : L2.St} {H : Hp} {Q : VK} (hs : SqL K H a (ns.map V.int)) (hn : ns.length ≤ 1000)
    (hw : ∀ x, wipe ((wipe σ vs).set i (some x)) vs = wipe σ vs)
    (elem : ∀ x ∈ ns, ∀ H', Same H H' → ∀ R : VK, (∀ H'', Same H' H'' → R (.int (g x)) H'') → te ((wipe σ vs).set i (some (.int x))) H' R)
    (k : ∀ (p : Addr) (H' : Hp), H p = none → Same H H' → H' p = some (.lst ((ns.map g).map V.int)) → Q (.ref p) H') :
    (∃ xs, SqL K H a xs) ∧ ∀ D, H D = none → ∃ W : Nat → Nat → Hp → Prop, (∃ m, W 0 m (upd H D (.lst []))) ∧ ∀ t m H, W t m H →
      ((Itl K a).stop t H ∧ Q (.ref D) H) ∨ ((Itl K a).go t H ∧ ∃ Nx : Hp → Prop, (∀ H', Nx H' → ∃ m', m' < m ∧ W (t + 1) m' H') ∧ ∀ x H', (Itl K a).yld t H x H' → (gName i) x (wipe σ vs) H' fun σ2 H2 => wipe σ2 vs = wipe σ vs ∧ tYes σ2 H2 fun b H3 =>
        if b = true then te σ2 H3 fun y H4 => ∃ acc, H4 D = some (.lst acc) ∧ acc.length < sizeLine ∧ Nx (upd H4 D (.lst (acc ++ [y]))) else Nx H3) :=
  lcMap (inj := V.int) (res := fun x => .int (g x)) hs hn hw elem fun p H' hp S h => k p H' hp S (by rw [List.map_map]; exact h)
theorem lcVarI {ns : List Int} {g : Int → Int} {K : PySem.W.Frag} {a : Addr} {i j : Nat} {te : TE} {vs : List Nat} {σ : L2.St} {H : Hp} {Q : VK} (ej : σ[j]? = some (some (.ref a))) (hs : SqL K H a (ns.map V.int)) (hn : ns.length ≤ 1000)
    (hw : ∀ x, wipe ((wipe σ vs).set i (some x)) vs = wipe σ vs)
    (elem : ∀ x ∈ ns, ∀ H', Same H H' → ∀ R : VK, (∀ H'', Same H' H'' → R (.int (g x)) H'') → te ((wipe σ vs).set i (some (.int x))) H' R)
    (k : ∀ (p : Addr) (H' : Hp), H p = none → Same H H' → H' p = some (.lst ((ns.map g).map V.int)) → Q (.ref p) H') : tLc (iList K (tVar j)) (gName i) tYes te vs σ H Q :=
  lc (il ⟨_, ej, _, rfl, lcMapI hs hn hw elem k⟩)
/-- [e for x in l if t] where t never holds: a new empty list -/
theorem lcNone {items : List V} {K : PySem.W.Frag} {a : Addr} {i j : Nat} {te : TE} {tt : TT} {vs : List Nat} {σ : L2.St} {H : Hp} {Q : VK} (ej : σ[j]? = some (some (.ref a))) (hs : SqL K H a items)
    (hw : ∀ x, wipe ((wipe σ vs).set i (some x)) vs = wipe σ vs)
    (test : ∀ x ∈ items, ∀ H', Same H H' → ∀ R : Bool → Hp → Prop, (∀ H'', Same H' H'' → R false H'') → tt ((wipe σ vs).set i (some x)) H' R)
    (k : ∀ (p : Addr) (H' : Hp), H p = none → Same H H' → H' p = some (.lst []) → Q (.ref p) H') : tLc (iList K (tVar j)) (gName i) tt te vs σ H Q := by
  refine lc (il ⟨_, ej, _, rfl, ⟨_, hs⟩, fun D hD => lc_list (xs := items) (fun _ H' => Same H H' ∧ H' D = some (.lst [])) ⟨same_upd hD (Same.refl _), upd_same⟩ (fun t H' _ p => p.1.seq hs) (fun t x H' hx p => ?_) (fun H' p => k D H' hD p.1 p.2)⟩)
  obtain ⟨S, hl⟩ := p
  refine ⟨hw _, test x (List.mem_of_getElem? hx) H' S _ fun H'' S' => ?_⟩
  exact iteF (A := te _ H'' _) rfl ⟨S.trans S', S' _ _ hl⟩
theorem mulB {a n : Int} {A B : Nat} (ha : a.natAbs < 2 ^ A) (hn : n.natAbs < 2 ^ B) : -(2 ^ (A + B)) < a * n ∧ a * n < 2 ^ (A + B) := by
  have h := wide_lt ha hn
  have e : ((2 ^ (A + B) : Nat) : Int) = (2 : Int) ^ (A + B) := by simp
  rw [← e]
  omega
theorem dp_ints {K : PySem.W.Frag} {H : Hp} : ∀ ns : List Int, DpAll K H (ns.map V.int) (ns.map PyData.int)
  | [] => .nil
  | _ :: r => .cons (.int _) (dp_ints r)
theorem dp_listI {K : PySem.W.Frag} {H : Hp} {a : Addr} {ns : List Int} (h : SqL K H a (ns.map V.int)) : Dp K H (.ref a) (.list (ns.map PyData.int)) := .lst h (dp_ints ns)
theorem can_ints : ∀ ns : List Int, PyData.canLayAll0 (ns.map PyData.int) = true
  | [] => by simp [PyData.canLayAll0]
  | _ :: r => by simp only [List.map_cons, PyData.canLayAll0, PyData.canLay0, can_ints r, Bool.and_self]
theorem dep_ints : ∀ ns : List Int, PyData.depthAll (ns.map PyData.int) = 0
  | [] => by simp [PyData.depthAll]
  | _ :: r => by simp only [List.map_cons, PyData.depthAll, PyData.depth, dep_ints r, Nat.max_self]
theorem shaped_listI (ns : List Int) : SeqAt.shaped (.list (ns.map PyData.int)) = true := by
  simp only [SeqAt.shaped, PyData.canLay0, can_ints, PyData.depth, dep_ints]
  decide
theorem eqvAll_ints : ∀ ns ms : List Int, PyData.eqvAll (ns.map PyData.int) (ms.map PyData.int) = decide (ns = ms)
  | [], [] => by simp [PyData.eqvAll]
  | [], _ :: _ => by simp [PyData.eqvAll]
  | _ :: _, [] => by simp [PyData.eqvAll]
  | x :: r, y :: q => by
    simp only [List.map_cons, PyData.eqvAll, PyData.eqv, eqvAll_ints r q]
    by_cases h : x = y
    · subst h; simp
    · simp [h]
theorem eqv_listI (ns ms : List Int) : PyData.eqv (.list (ns.map PyData.int)) (.list (ms.map PyData.int)) = decide (ns = ms) := by
  simp only [PyData.eqv, eqvAll_ints]
theorem eqv_pair (a b c d : Int) : PyData.eqv (.tuple [.int a, .int b]) (.tuple [.int c, .int d]) = (a == c && b == d) := by
  simp [PyData.eqv, PyData.eqvAll]
theorem eqv_pairV (a b c d : Int) : PyData.eqv (.tuple [.int a, .int b]) (.tuple [.int c, .int d]) = (decide (V.int a = .int c) && decide (V.int b = .int d)) := by
  simp only [PyData.eqv, PyData.eqvAll, Bool.and_true, V.int.injEq]
  rw [Bool.eq_iff_iff]
  simp
theorem dp_pair {K : PySem.W.Frag} {H : Hp} {p : Addr} {a b : Int} (h : SqT K H p [.int a, .int b]) : Dp K H (.ref p) (.tuple [.int a, .int b]) := .tup h (.cons (.int _) (.cons (.int _) .nil))
theorem shaped_pair (a b : Int) : SeqAt.shaped (.tuple [.int a, .int b]) = true := by
  simp only [SeqAt.shaped, PyData.canLay0, PyData.canLayAll0, PyData.depth, PyData.depthAll]
  rfl
theorem isi {X : Cx} {K : PySem.W.Frag} (e : X.K = K) : CallR X (.builtin "isinstance") (rIsi K) := e ▸ call_isi
theorem dp_nil {K : PySem.W.Frag} {H : Hp} {p : Addr} (h : SqL K H p []) : Dp K H (.ref p) (.list []) := .lst h .nil
theorem eqv_nil : PyData.eqv (.list []) (.list []) = true := by simp [PyData.eqv, PyData.eqvAll]
theorem shaped_nil : SeqAt.shaped (.list []) = true := by
  simp only [SeqAt.shaped, PyData.canLay0, PyData.canLayAll0, PyData.depth, PyData.depthAll]
  rfl
/-- an item of a written list of ints at a drawn place -/
theorem pick {ns : List Int} {lo hi : Int} {K : PySem.W.Frag} {H : Hp} {a : Addr} {xs : List V} {d : Int} {Q : VK} (hm : ∀ n ∈ ns, lo ≤ n ∧ n ≤ hi) (e : SqL K H a xs) (eq : xs = ns.map V.int) (h0 : 0 ≤ d) (h1 : d < (ns.length : Int))
    (h : ∀ n : Int, n ∈ ns → lo ≤ n → n ≤ hi → Q (.int n) H) : rIxL K (.ref a) (.int d) H Q := by
  subst eq
  obtain ⟨j, rfl⟩ : ∃ j : Nat, d = (j : Int) := ⟨d.toNat, by omega⟩
  have hj : j < ns.length := by omega
  have hn : ns[j] ∈ ns := List.getElem_mem hj
  exact ⟨a, _, _, .int ns[j], rfl, rfl, e, atI_nat (by rw [List.getElem?_map, List.getElem?_eq_getElem hj]; rfl), h _ hn (hm _ hn).1 (hm _ hn).2⟩
theorem sgn {d n B : Int} (h0 : 0 ≤ d) (h1 : d < B) (m : n ∈ [(1 : Int), -1]) : -B < d * n ∧ d * n < B := by
  simp only [List.mem_cons, List.not_mem_nil, or_false] at m
  rcases m with rfl | rfl <;> omega
end Rd
/-! ## pairs in order, lists of truths -/
namespace Rd
open PySem PySem.Spec PyProof.Rows L2
/-- what an order of pairs says: rr of the first unlike parts, z where all are alike -/
def rPr (K : PySem.W.Frag) (z : Bool) (rr : Int → Int → Bool) : R2 := fun x y H Q => ∃ (p q : Addr) (a b c d : Int), x = .ref p ∧ y = .ref q ∧ SqT K H p [.int a, .int b] ∧ SqT K H q [.int c, .int d] ∧ Q (.bl (if a = c then (if b = d then z else rr b d) else rr a c)) H
theorem pair_ints {us : List Value} {a b : Int} (h : IntsAre us [a, b]) : ∃ t u, us = [.int a t, .int b u] := by
  cases h with
  | cons _ t h1 =>
    cases h1 with
    | cons _ u h2 =>
      cases h2
      exact ⟨t, u, rfl⟩
theorem opPr {X : Cx} {op : CmpOp} {z : Bool} {rr : Int → Int → Bool}
    (T : ∀ {s : Shared} {l m : Addr} {u1 u2 w1 w2 : Value} {e r : Nat → Bool}, s.heap.IsTuple l #[u1, u2] → s.heap.IsTuple m #[w1, w2] →
      (∀ j (h1 : j < (#[u1, u2] : Array Value).size) (h2 : j < (#[w1, w2] : Array Value).size), SeqAt.EqAt X.A.in1 s (#[u1, u2] : Array Value)[j] (#[w1, w2] : Array Value)[j] (e j)) →
      (∀ j (h1 : j < (#[u1, u2] : Array Value).size) (h2 : j < (#[w1, w2] : Array Value).size), e j = false → Ob.RcOp op X.A.in1 s (#[u1, u2] : Array Value)[j] (#[w1, w2] : Array Value)[j] (r j)) → Ob.RcOp op X.A s (.ref l) (.ref m) (Ob.lexAt e r z 0 2))
    (I1 : ∀ {s : Shared} (a b : Int) (t u : Tok), Ob.RcOp op X.A.in1 s (.int a t) (.int b u) (rr a b))
    (hop : ∀ (x y : Value), compareOp op x y = richCompare op x y) : OpR X (compareOp op) (rPr X.K z rr) := by
  intro pins s σ H x y v u Q I rx ry h
  obtain ⟨p, q, a, b, c, d, rfl, rfl, hp, hq, k⟩ := h
  cases rx
  cases ry
  obtain ⟨us, r1, p1, _⟩ := I.tuple hp
  obtain ⟨ws, r2, p2, _⟩ := I.tuple hq
  obtain ⟨t1, t2, rfl⟩ := pair_ints (Vals.ints (ns := [a, b]) r1)
  obtain ⟨t3, t4, rfl⟩ := pair_ints (Vals.ints (ns := [c, d]) r2)
  have R := T (s := s) (e := fun j => if j = 0 then decide (a = c) else decide (b = d)) (r := fun j => if j = 0 then rr a c else rr b d) p1 p2 (fun j h1 h2 => by
    rcases j with _ | _ | j
    · have w := SeqAt.EqAt.int_int (A := X.A.in1) (s := s) a t1 c t3
      rw [show (a == c) = decide (a = c) from by by_cases e : a = c <;> simp [e]] at w
      exact w
    · have w := SeqAt.EqAt.int_int (A := X.A.in1) (s := s) b t2 d t4
      rw [show (b == d) = decide (b = d) from by by_cases e : b = d <;> simp [e]] at w
      exact w
    · exact absurd h1 (by simp)) (fun j h1 h2 _ => by
    rcases j with _ | _ | j
    · exact I1 a c t1 t3
    · exact I1 b d t2 t4
    · exact absurd h1 (by simp))
  have hb : Ob.lexAt (fun j => if j = 0 then decide (a = c) else decide (b = d)) (fun j => if j = 0 then rr a c else rr b d) z 0 2 = (if a = c then (if b = d then z else rr b d) else rr a c) := by
    simp only [Ob.lexAt, decide_eq_true_eq, if_pos]
    by_cases e : a = c <;> by_cases f : b = d <;> simp [e, f]
  rw [hb] at R
  show wpAny (model X.prog X.w) X.A (compareOp op (.ref p) (.ref q)) (EP X pins σ Q) X.xe s
  rw [hop]
  exact R X.prog X.w X.xe (EP X pins σ Q) ⟨.bl _, H, I, rfl, k⟩
theorem opPrLt {X : Cx} (hu : X.A.units < cLine) : OpR X (compareOp .Lt) (rPr X.K false fun a b => decide (a < b)) :=
  opPr (fun h1 h2 e r => Ob.RcOp.tuples_lt h1 h2 hu e r) (fun a b t u => Ob.RcOp.lt_int a b t u) (fun _ _ => rfl)
theorem opPrLe {X : Cx} (hu : X.A.units < cLine) : OpR X (compareOp .LtE) (rPr X.K true fun a b => decide (a ≤ b)) :=
  opPr (fun h1 h2 e r => Ob.RcOp.tuples_le h1 h2 hu e r) (fun a b t u => Ob.RcOp.le_int a b t u) (fun _ _ => rfl)
theorem opPrGt {X : Cx} (hu : X.A.units < cLine) : OpR X (compareOp .Gt) (rPr X.K false fun a b => decide (b < a)) :=
  opPr (fun h1 h2 e r => Ob.RcOp.tuples_gt h1 h2 hu e r) (fun a b t u => Ob.RcOp.gt_int a b t u) (fun _ _ => rfl)
theorem opPrGe {X : Cx} (hu : X.A.units < cLine) : OpR X (compareOp .GtE) (rPr X.K true fun a b => decide (b ≤ a)) :=
  opPr (fun h1 h2 e r => Ob.RcOp.tuples_ge h1 h2 hu e r) (fun a b t u => Ob.RcOp.ge_int a b t u) (fun _ _ => rfl)
section
variable {K : PySem.W.Frag} {H : Hp} {p q : Addr} {a b c d : Int} {Q : VK}
theorem prLt (e : SqT K H p [.int a, .int b]) (f : SqT K H q [.int c, .int d]) (h : Q (.bl (decide (a < c ∨ a = c ∧ b < d))) H) : rPr K false (fun a b => decide (a < b)) (.ref p) (.ref q) H Q := by
  refine ⟨_, _, a, b, c, d, rfl, rfl, e, f, ?_⟩
  have w : (if a = c then (if b = d then false else decide (b < d)) else decide (a < c)) = decide (a < c ∨ a = c ∧ b < d) := by
    split <;> (try split) <;> (rw [eq_comm]; first | (apply decide_eq_false; omega) | (congr 1; apply propext; omega))
  rw [w]
  exact h
theorem prLe (e : SqT K H p [.int a, .int b]) (f : SqT K H q [.int c, .int d]) (h : Q (.bl (decide (a < c ∨ a = c ∧ b ≤ d))) H) : rPr K true (fun a b => decide (a ≤ b)) (.ref p) (.ref q) H Q := by
  refine ⟨_, _, a, b, c, d, rfl, rfl, e, f, ?_⟩
  have w : (if a = c then (if b = d then true else decide (b ≤ d)) else decide (a ≤ c)) = decide (a < c ∨ a = c ∧ b ≤ d) := by
    split <;> (try split) <;> (rw [eq_comm]; first | (apply decide_eq_true; omega) | (congr 1; apply propext; omega))
  rw [w]
  exact h
theorem prGt (e : SqT K H p [.int a, .int b]) (f : SqT K H q [.int c, .int d]) (h : Q (.bl (decide (c < a ∨ a = c ∧ d < b))) H) : rPr K false (fun a b => decide (b < a)) (.ref p) (.ref q) H Q := by
  refine ⟨_, _, a, b, c, d, rfl, rfl, e, f, ?_⟩
  have w : (if a = c then (if b = d then false else decide (d < b)) else decide (c < a)) = decide (c < a ∨ a = c ∧ d < b) := by
    split <;> (try split) <;> (rw [eq_comm]; first | (apply decide_eq_false; omega) | (congr 1; apply propext; omega))
  rw [w]
  exact h
theorem prGe (e : SqT K H p [.int a, .int b]) (f : SqT K H q [.int c, .int d]) (h : Q (.bl (decide (c < a ∨ a = c ∧ d ≤ b))) H) : rPr K true (fun a b => decide (b ≤ a)) (.ref p) (.ref q) H Q := by
  refine ⟨_, _, a, b, c, d, rfl, rfl, e, f, ?_⟩
  have w : (if a = c then (if b = d then true else decide (d ≤ b)) else decide (c ≤ a)) = decide (c < a ∨ a = c ∧ d ≤ b) := by
    split <;> (try split) <;> (rw [eq_comm]; first | (apply decide_eq_true; omega) | (congr 1; apply propext; omega))
  rw [w]
  exact h
end
/-- t + u, of pairs -/
theorem catP {K : PySem.W.Frag} {H : Hp} {p q : Addr} {a b c d : V} {Q : VK} (e : SqT K H p [a, b]) (f : SqT K H q [c, d]) (h : ∀ r, H r = none → Q (.ref r) (upd H r (.tup [a, b, c, d]))) : rCatT K (.ref p) (.ref q) H Q :=
  ⟨p, q, _, _, rfl, rfl, e, f, by simp, Nat.le_of_lt (small1000 (show 4 ≤ 1000 by decide)), fun z => absurd z (by simp), fun _ r hr => h r hr⟩
theorem it {K : PySem.W.Frag} {tl : TE} {σ : L2.St} {H : Hp} {R : It → Hp → Prop} (h : tl σ H fun x H1 => ∃ a, x = .ref a ∧ (∃ xs, SqT K H1 a xs) ∧ R (Itt K a) H1) : iTup K tl σ H R := h
theorem ckw {r : List V → List V → Hp → VK → Prop} {t tk : TA} {σ : L2.St} {H : Hp} {Q : VK} (h : t σ H fun vs H1 => tk σ H1 fun zs H2 => r vs zs H2 Q) : tCKw r t tk σ H Q := h
theorem sqTS {K : PySem.W.Frag} {H H' : Hp} {a : Addr} {xs : List V} (f : Same H H') (h : SqT K H a xs) : SqT K H' a xs :=
  h.elim (fun r => .inl (r.elim (fun z => .inl (f _ _ z)) fun ⟨o, z⟩ => .inr ⟨o, f _ _ z⟩)) .inr
/-- [e for x in t], t a tuple of ints -/
theorem lcMapT {ns : List Int} {g : Int → Int} {K : PySem.W.Frag} {a : Addr} {i : Nat} {te : TE} {vs : List Nat} {σ : L2.St} {H : Hp} {Q : VK} {xs : List V} (hs : SqT K H a xs) (ex : xs = ns.map V.int) (hn : ns.length ≤ 1000)
    (hw : ∀ x, wipe ((wipe σ vs).set i (some x)) vs = wipe σ vs)
    (elem : ∀ x ∈ ns, ∀ H', Same H H' → ∀ R : VK, (∀ H'', Same H' H'' → R (.int (g x)) H'') → te ((wipe σ vs).set i (some (.int x))) H' R)
    (k : ∀ (p : Addr) (H' : Hp), H p = none → Same H H' → H' p = some (.lst ((ns.map g).map V.int)) → Q (.ref p) H') :
    (∃ xs, SqT K H a xs) ∧ ∀ D, H D = none → ∃ W : Nat → Nat → Hp → Prop, (∃ m, W 0 m (upd H D (.lst []))) ∧ ∀ t m H, W t m H →
      ((Itt K a).stop t H ∧ Q (.ref D) H) ∨ ((Itt K a).go t H ∧ ∃ Nx : Hp → Prop, (∀ H', Nx H' → ∃ m', m' < m ∧ W (t + 1) m' H') ∧ ∀ x H', (Itt K a).yld t H x H' → (gName i) x (wipe σ vs) H' fun σ2 H2 => wipe σ2 vs = wipe σ vs ∧ tYes σ2 H2 fun b H3 =>
        if b = true then te σ2 H3 fun y H4 => ∃ acc, H4 D = some (.lst acc) ∧ acc.length < sizeLine ∧ Nx (upd H4 D (.lst (acc ++ [y]))) else Nx H3) := by
  subst ex
  refine ⟨⟨_, hs⟩, fun D hD => lc_tup (xs := ns.map V.int) (fun t H' => Same H H' ∧ H' D = some (.lst (((ns.take t).map g).map V.int))) ⟨same_upd hD (Same.refl _), upd_same⟩ (fun t H' _ p => sqTS p.1 hs) (fun t x H' hx p => ?_) (fun H' p => ?_)⟩
  · obtain ⟨S, hl⟩ := p
    rw [List.getElem?_map] at hx
    cases e : ns[t]? with
    | none => rw [e] at hx; cases hx
    | some y =>
      rw [e] at hx
      cases hx
      have hy : y ∈ ns := List.mem_of_getElem? e
      have ht : t < ns.length := (List.getElem?_eq_some_iff.mp e).1
      refine ⟨hw _, iteT (B := Same H H' ∧ H' D = some (.lst (((ns.take (t + 1)).map g).map V.int))) rfl (elem y hy H' S _ fun H'' S' => ⟨_, S' _ _ hl, ?_, ?_, ?_⟩)⟩
      · rw [List.length_map, List.length_map, List.length_take]
        exact small1000 (by omega)
      · exact same_upd hD (S.trans S')
      · rw [upd_same, List.take_add_one, e]
        simp
  · obtain ⟨S, hl⟩ := p
    rw [List.length_map, List.take_length] at hl
    exact k D H' hD S hl
/-- [e for x in t + u], t and u pairs of ints -/
theorem lcCatI {a b c d : Int} {g : Int → Int} {K : PySem.W.Frag} {p q : Addr} {i j1 j2 : Nat} {te : TE} {vs : List Nat} {σ : L2.St} {H : Hp} {Q : VK} (e1 : σ[j1]? = some (some (.ref p))) (e2 : σ[j2]? = some (some (.ref q))) (hp : SqT K H p [.int a, .int b]) (hq : SqT K H q [.int c, .int d])
    (hw : ∀ x, wipe ((wipe σ vs).set i (some x)) vs = wipe σ vs)
    (elem : ∀ x ∈ [a, b, c, d], ∀ H', Same H H' → ∀ R : VK, (∀ H'', Same H' H'' → R (.int (g x)) H'') → te ((wipe σ vs).set i (some (.int x))) H' R)
    (k : ∀ (r : Addr) (H' : Hp), Same H H' → H' r = some (.lst (([a, b, c, d].map g).map V.int)) → Q (.ref r) H') : tLc (iTup K (tOp (rCatT K) (tVar j1) (tVar j2))) (gName i) tYes te vs σ H Q :=
  lc (it ⟨_, e1, _, e2, catP hp hq fun r hr => ⟨r, rfl, lcMapT (SqT.of (L2.upd_same)) rfl (by simp) hw (fun x hx H' S R kk => elem x hx H' (Same.trans (same_upd hr (Same.refl _)) S) R kk) fun r2 H' h2 S hl => k r2 H' (Same.trans (same_upd hr (Same.refl _)) S) hl⟩⟩)
theorem two {u v : V} {i : Nat} {x : V} (h : [u, v][i]? = some x) : x = u ∨ x = v := by
  rcases i with _ | _ | i
  · exact .inl (Option.some.inj h).symm
  · exact .inr (Option.some.inj h).symm
  · simp at h
theorem dp_b4 {K : PySem.W.Frag} {H : Hp} {p : Addr} {x y z w : Bool} (h : SqL K H p [.bl x, .bl y, .bl z, .bl w]) : Dp K H (.ref p) (.list [.bool x, .bool y, .bool z, .bool w]) := .lst h (.cons (.bl _) (.cons (.bl _) (.cons (.bl _) (.cons (.bl _) .nil))))
theorem shaped_b4 (x y z w : Bool) : SeqAt.shaped (.list [.bool x, .bool y, .bool z, .bool w]) = true := by
  simp only [SeqAt.shaped, PyData.canLay0, PyData.canLayAll0, PyData.depth, PyData.depthAll]
  rfl
theorem lessV (a b c d : Int) : (decide (a < c) || (decide (V.int a = V.int c) && decide (b < d))) = decide (a < c ∨ a = c ∧ b < d) := by
  rw [Bool.eq_iff_iff]
  simp
theorem told4 (a b c d : Int) : (!PyData.eqv (.list [.bool (decide (a < c ∨ a = c ∧ b < d)), .bool (decide (a < c ∨ a = c ∧ b ≤ d)), .bool (decide (c < a ∨ a = c ∧ d < b)), .bool (decide (c < a ∨ a = c ∧ d ≤ b))])
    (.list [.bool (decide (a < c ∨ a = c ∧ b < d)), .bool (decide (a < c ∨ a = c ∧ b < d) || PyData.eqv (.tuple [.int a, .int b]) (.tuple [.int c, .int d])), .bool (!decide (a < c ∨ a = c ∧ b < d) && !PyData.eqv (.tuple [.int a, .int b]) (.tuple [.int c, .int d])), .bool (!decide (a < c ∨ a = c ∧ b < d))])) = false := by
  have e : PyData.eqv (.tuple [.int a, .int b]) (.tuple [.int c, .int d]) = decide (a = c ∧ b = d) := by
    rw [eqv_pair, Bool.eq_iff_iff]
    simp
  have e1 : decide (a < c ∨ a = c ∧ b ≤ d) = (decide (a < c ∨ a = c ∧ b < d) || decide (a = c ∧ b = d)) := by
    rw [Bool.eq_iff_iff]
    simp only [Bool.or_eq_true, decide_eq_true_eq]
    omega
  have e2 : decide (c < a ∨ a = c ∧ d < b) = (!decide (a < c ∨ a = c ∧ b < d) && !decide (a = c ∧ b = d)) := by
    rw [Bool.eq_iff_iff]
    simp only [Bool.and_eq_true, Bool.not_eq_true', decide_eq_true_eq, decide_eq_false_iff_not]
    omega
  have e3 : decide (c < a ∨ a = c ∧ d ≤ b) = (!decide (a < c ∨ a = c ∧ b < d)) := by
    rw [Bool.eq_iff_iff]
    simp only [Bool.not_eq_true', decide_eq_true_eq, decide_eq_false_iff_not]
    omega
  rw [e, e1, e2, e3]
  simp [PyData.eqv, PyData.eqvAll]
theorem absB {x m : Int} (h : (if x < 0 then -x else x) ≤ m) : -m ≤ x ∧ x ≤ m := by
  split at h <;> omega
theorem ltAt {a b c d n m : Int} (hn : n = 1000000000 ∨ n = 1000000000000000000000000000000) (hm : m ≤ 1000000) (ha : -m ≤ a ∧ a ≤ m) (hb : -m ≤ b ∧ b ≤ m) (hc : -m ≤ c ∧ c ≤ m) (hd : -m ≤ d ∧ d ≤ m) : decide (a * n + b < c * n + d) = decide (a < c ∨ a = c ∧ b < d) := by
  rw [Bool.eq_iff_iff]
  simp only [decide_eq_true_eq]
  rcases hn with rfl | rfl <;> omega
theorem eqAt {a b c d n m : Int} (hn : n = 1000000000 ∨ n = 1000000000000000000000000000000) (hm : m ≤ 1000000) (ha : -m ≤ a ∧ a ≤ m) (hb : -m ≤ b ∧ b ≤ m) (hc : -m ≤ c ∧ c ≤ m) (hd : -m ≤ d ∧ d ≤ m) : decide (V.int (a * n + b) = V.int (c * n + d)) = (decide (V.int a = V.int c) && decide (V.int b = V.int d)) := by
  rw [Bool.eq_iff_iff]
  simp only [Bool.and_eq_true, decide_eq_true_eq, V.int.injEq]
  rcases hn with rfl | rfl <;> omega
end Rd
/-! ## max(xs, key=int) of a list of ints -/
namespace MxK
open PySem PySem.Spec PyProof.Rows L2
section
variable {prog : Program} {w : World} {A : Around} {E : Value → Shared → Prop} {s : Shared} {l I S : Addr} {vs : List Value} {ns : List Int} {Z : Result → Shared → Prop}
/-- what the walk keeps: the older objects, the best with its key in S, the walker's place in I -/
structure St (s : Shared) (l I S : Addr) (h : Heap) (j : Nat) (M : Int) (tv tb : Tok) : Prop where
  old : ∀ b o, s.heap.get? b = some o → h.get? b = some o
  sto : ∃ c, h.get? S = some (seqObj "list" #[.int M tv, .int M tb] c)
  itr : h.IsListIter I l j
theorem St.list {h : Heap} {j : Nat} {M : Int} {tv tb : Tok} (K : St s l I S h j M tv tb) (hl : s.heap.IsList l vs.toArray) : h.IsList l vs.toArray := by
  obtain ⟨o, e, r⟩ := hl
  exact ⟨o, K.old _ _ e, r⟩
theorem getD_of {ns : List Int} {i : Nat} {n : Int} (h : ns[i]? = some n) : ns.getD i 0 = n := by simp [h]
theorem item {i : Nat} {v : Value} (hi : IntsAre vs ns) (h : vs[i]? = some v) : ∃ t, v = .int (ns.getD i 0) t ∧ ns.getD i 0 ∈ ns := by
  have hlen := hi.length
  have h1 : i < vs.length := (List.getElem?_eq_some_iff.mp h).1
  have h2 : ns[i]? = some (ns[i]'(by omega)) := List.getElem?_eq_getElem (by omega)
  obtain ⟨t, ht⟩ := hi.get i _ h2
  rw [h] at ht
  cases ht
  exact ⟨t, by rw [getD_of h2], by rw [getD_of h2]; exact List.getElem_mem _⟩
theorem loop (hh : A.handled = none) (hl : s.heap.IsList l vs.toArray) (hi : IntsAre vs ns) (hlI : l ≠ I) (hSI : S ≠ I) (nS : s.heap.get? S = none) (nI : s.heap.get? I = none)
    (done : ∀ h' tk' M t, (∀ b o, s.heap.get? b = some o → h'.get? b = some o) → M ∈ ns → (∀ a ∈ ns, a ≤ M) → Z (.ok (.ret (.int M t))) { s with heap := h', toks := tk' }) :
    ∀ (r j : Nat) (h : Heap) (tk : Nat) (M : Int) (tv tb : Tok), vs.length - j = r → j ≤ vs.length → St s l I S h j M tv tb → M ∈ ns → (∀ i, i < j → ns.getD i 0 ≤ M) →
      codeAny (model prog w) A (.builtin "max.loop" ⟨[.ref I, .type "int", .ref S], []⟩) Z { s with heap := h, toks := tk } := by
  have nm : (toString "max" ++ toString ".loop" : String) = "max.loop" := by decide
  have Wk := Walks.list (prog := prog) (w := w) (A := A.in1) hh I l hlI vs.toArray
  have zs : vs.toArray.size = vs.length := List.size_toArray ..
  have hlen := hi.length
  intro r
  induction r with
  | zero =>
    intro j h tk M tv tb hr hj K hM hb
    have ej : j = vs.length := by omega
    obtain ⟨c, gS⟩ := K.sto
    refine codeAny_builtin PySem.F.entry_max_loop (?_ : _)
    rw [Around.under_plainId (PySem.F.plain_max_loop : _) _]
    show wpAny _ A.in1 (seqItems? (.ref S) >>= fun _ => _) _ _ _
    refine wpAny_bind (wpAny_seqItems gS rfl (?_ : _))
    show wpAny _ A.in1 (tryCatch (pyNext (.ref I)) _ >>= fun _ => _) _ _ _
    refine wpAny_bind (wpAny_tryCatch (Wk.done _ _ _ ⟨by rw [zs, ← ej]; exact K.itr, K.list hl⟩ fun h' tk' kept => ?_))
    have gS' := kept S _ (by simpa using hSI) gS
    have sb := Heap.SameBut.update h' S (Obj.mapSeq fun _ => (#[] : Array Value))
    show wpAny _ A.in1 (updateSeq S (fun _ => #[]) >>= fun _ => _) _ _ _
    refine wpAny_bind (wpAny_updateSeq gS' rfl (wpAny_bind (wpAny_letGo (wpAny_pure (done _ _ M tv (fun b o q => ?_) hM (fun a ha => ?_))))))
    · have nb : b ≠ S := fun z => by rw [z, nS] at q; cases q
      have ni : b ≠ I := fun z => by rw [z, nI] at q; cases q
      rw [sb.2 b nb]
      exact kept b o (by simpa using ni) (K.old b o q)
    · obtain ⟨i, hi1, rfl⟩ := List.getElem_of_mem ha
      have := hb i (by omega)
      rw [getD_of (List.getElem?_eq_getElem hi1)] at this
      exact this
  | succ r ih =>
    intro j h tk M tv tb hr hj K hM hb
    have lt : j < vs.length := by omega
    obtain ⟨c, gS⟩ := K.sto
    refine codeAny_builtin PySem.F.entry_max_loop (?_ : _)
    rw [Around.under_plainId (PySem.F.plain_max_loop : _) _]
    show wpAny _ A.in1 (seqItems? (.ref S) >>= fun _ => _) _ _ _
    refine wpAny_bind (wpAny_seqItems gS rfl (?_ : _))
    show wpAny _ A.in1 (tryCatch (pyNext (.ref I)) _ >>= fun _ => _) _ _ _
    refine wpAny_bind (wpAny_tryCatch (Wk.item j _ _ _ (by rw [zs]; exact lt) ⟨K.itr, K.list hl⟩ fun v h' tk' hP st kept => ?_))
    obtain ⟨t, rfl, hn⟩ := item hi (show vs[j]? = some v by simpa using hP)
    have gS' := kept S _ (by simpa using hSI) gS
    have K' : ∀ b o, s.heap.get? b = some o → h'.get? b = some o := fun b o q => by
      have ni : b ≠ I := fun z => by rw [z, nI] at q; cases q
      exact kept b o (by simpa using ni) (K.old b o q)
    have bN : ∀ x, M ≤ x → ns.getD j 0 ≤ x → ∀ i, i < j + 1 → ns.getD i 0 ≤ x := fun x h1 h2 i hi1 => by
      by_cases e : i = j
      · rw [e]; exact h2
      · exact Int.le_trans (hb i (by omega)) h1
    generalize hx : ns.getD j 0 = x at hn bN ⊢
    show wpAny _ A.in1 (tryCatch (holding [.int x t] (call (.type "int") [.int x t])) _ >>= fun _ => _) _ _ _
    refine wpAny_bind (wpAny_tryCatch (wpAny_holding (call_int_int ?_)))
    show wpAny _ A.in1 (tryCatch (holding [.int x t, .int x t] (richCompare .Gt (.int x t) (.int M tb) >>= fun _ => _)) _ >>= fun _ => _) _ _ _
    refine wpAny_bind (wpAny_tryCatch (wpAny_holding (wpAny_bind (PyProof.Rows.gt_int ?_))))
    refine wpAny_bind (wpAny_holding (wpAny_truthy_bool ?_))
    refine wpAny_bind (wpAny_letGo (wpAny_pure (?_ : _)))
    by_cases q : M < x
    · have sb := Heap.SameBut.update h' S (Obj.mapSeq fun _ => #[.int x t, .int x t])
      have gN : ∃ c2, (h'.update S (Obj.mapSeq fun _ => #[.int x t, .int x t])).get? S = some (seqObj "list" #[.int x t, .int x t] c2) := ⟨_, get?_update_seq gS' fun _ => #[.int x t, .int x t]⟩
      obtain ⟨oI, gI, oc, od⟩ := id st.1
      simp only [q, decide_true, if_true]
      refine wpAny_bind (wpAny_updateSeq gS' rfl (wpAny_bind (wpAny_letGo ?_)))
      rw [nm]
      refine wpAny_pure ⟨plainId_quiet (PySem.F.plain_max_loop : _) _, ih (j + 1) _ _ x t t (by omega) lt ⟨fun b o e => ?_, gN, ⟨oI, (sb.2 I hSI.symm).trans gI, oc, od⟩⟩ hn (bN x (by omega) (Int.le_refl _))⟩
      have nb : b ≠ S := fun z => by rw [z, nS] at e; cases e
      rw [sb.2 b nb]
      exact K' b o e
    · simp only [q, decide_false, Bool.false_eq_true, if_false]
      refine wpAny_bind (wpAny_letGo (?_ : _))
      rw [nm]
      exact wpAny_pure ⟨plainId_quiet (PySem.F.plain_max_loop : _) _, ih (j + 1) _ _ M tv tb (by omega) lt ⟨K', ⟨c, gS'⟩, st.1⟩ hM (bN M (Int.le_refl _) (by omega))⟩
theorem max_key_int {Q : Value → Shared → Prop} (hh : A.handled = none) (hl : s.heap.IsList l vs.toArray) (hi : IntsAre vs ns) (hne : 0 < ns.length)
    (k : ∀ h' tk' M t, (∀ b o, s.heap.get? b = some o → h'.get? b = some o) → M ∈ ns → (∀ a ∈ ns, a ≤ M) → Q (.int M t) { s with heap := h', toks := tk' }) :
    wpAny (model prog w) A (call (.builtin "max") [.ref l] [(Str.ofString "key", .type "int")]) Q E s := by
  have nm : (toString "max" ++ toString ".loop" : String) = "max.loop" := by decide
  obtain ⟨ol, el, _⟩ := id hl
  have hlen := hi.length
  have ll : l < s.heap.objs.size := Heap.lt_size el
  refine kmb_tree PySem.F.kind_max PySem.F.plain_max PySem.F.entry_max (kmb_max_key _ _) (?_ : _)
  show wpAny _ A.in1 (Builtin.Builtins.bindParams "max" ["key", "default"] 0 ⟨[], [(Str.ofString "key", .type "int")]⟩ >>= fun _ => _) _ _ s
  refine wpAny_bind (wpAny_of_eq (show Builtin.Builtins.bindParams "max" ["key", "default"] 0 ⟨[], [(Str.ofString "key", .type "int")]⟩ = pure [some (.type "int"), none] from rfl) (wpAny_bind (wpAny_pure ?_)))
  refine wpAny_bind (wpAny_pyIter_list hl (wpAny_bind (wpAny_newList ?_ (Nat.zero_le _))))
  rw [nm]
  generalize hG : s.heap.push { cls := .type "list_iterator", data := .fields #[.ref l, .int 0 0] } = G
  have gz : G.objs.size = s.heap.objs.size + 1 := by rw [← hG]; exact size_push' ..
  have gI0 : G.get? s.heap.objs.size = some { cls := .type "list_iterator", data := .fields #[.ref l, .int 0 0] } := by rw [← hG]; exact Heap.get?_push_size _ rfl
  have gI : (G.push (seqObj "list" #[] 0)).get? s.heap.objs.size = some { cls := .type "list_iterator", data := .fields #[.ref l, .int 0 0] } := Heap.get?_push_of_some _ gI0
  have gS : (G.push (seqObj "list" #[] 0)).get? G.objs.size = some (seqObj "list" #[] 0) := Heap.get?_push_size _ rfl
  have old : ∀ b o, s.heap.get? b = some o → (G.push (seqObj "list" #[] 0)).get? b = some o := fun b o e => by
    rw [← hG]
    exact Heap.get?_push_of_some _ (Heap.get?_push_of_some _ e)
  have hlI : l ≠ s.heap.objs.size := Nat.ne_of_lt ll
  have hSI : G.objs.size ≠ s.heap.objs.size := by omega
  have nI : s.heap.get? s.heap.objs.size = none := Heap.get?_none_of_le (Nat.le_refl _)
  have nS : s.heap.get? G.objs.size = none := Heap.get?_none_of_le (by omega)
  have Wk := Walks.list (prog := prog) (w := w) (A := A.in1) hh s.heap.objs.size l hlI vs.toArray
  have zs : vs.toArray.size = vs.length := List.size_toArray ..
  refine wpAny_pure ⟨plainId_quiet (PySem.F.plain_max_loop : _) _, codeAny_builtin PySem.F.entry_max_loop (?_ : _)⟩
  rw [Around.under_plainId (PySem.F.plain_max_loop : _) _]
  show wpAny _ A.in1 (seqItems? (.ref _) >>= fun _ => _) _ _ _
  refine wpAny_bind (wpAny_seqItems gS rfl (?_ : _))
  show wpAny _ A.in1 (tryCatch (pyNext (.ref s.heap.objs.size)) _ >>= fun _ => _) _ _ _
  have ol2 : (G.push (seqObj "list" #[] 0)).IsList l vs.toArray := by
    obtain ⟨o, e, z⟩ := id hl
    exact ⟨o, old _ _ e, z⟩
  refine wpAny_bind (wpAny_tryCatch (Wk.item 0 _ _ _ (by rw [zs]; omega) ⟨⟨_, gI, rfl, rfl⟩, ol2⟩ fun v h' tk' hP st kept => ?_))
  obtain ⟨t, rfl, hn⟩ := item hi (show vs[0]? = some v by simpa using hP)
  have gS' := kept _ _ (by simpa using hSI) gS
  generalize hx : ns.getD 0 0 = x at hn ⊢
  show wpAny _ A.in1 (tryCatch (holding [.int x t] (call (.type "int") [.int x t])) _ >>= fun _ => _) _ _ _
  refine wpAny_bind (wpAny_tryCatch (wpAny_holding (call_int_int ?_)))
  have sb := Heap.SameBut.update h' G.objs.size (Obj.mapSeq fun _ => #[.int x t, .int x t])
  have gN : ∃ c2, (h'.update G.objs.size (Obj.mapSeq fun _ => #[.int x t, .int x t])).get? G.objs.size = some (seqObj "list" #[.int x t, .int x t] c2) := ⟨_, get?_update_seq gS' fun _ => #[.int x t, .int x t]⟩
  obtain ⟨oI, gI', oc, od⟩ := id st.1
  show wpAny _ A.in1 (updateSeq G.objs.size (fun _ => #[.int x t, .int x t]) >>= fun _ => _) _ _ _
  refine wpAny_bind (wpAny_updateSeq gS' rfl (?_ : _))
  rw [nm]
  refine wpAny_pure ⟨plainId_quiet (PySem.F.plain_max_loop : _) _, loop hh hl hi hlI hSI nS nI (fun h2 tk2 M t2 q hM hb => k h2 tk2 M t2 q hM hb) _ 1 _ _ x t t rfl (by omega) ⟨fun b o e => ?_, gN, ⟨oI, (sb.2 _ hSI.symm).trans gI', oc, od⟩⟩ hn (fun i hi1 => ?_)⟩
  · have nb : b ≠ G.objs.size := fun z => by rw [z, nS] at e; cases e
    have ni : b ≠ s.heap.objs.size := fun z => by rw [z, nI] at e; cases e
    rw [sb.2 b nb]
    exact kept b o (by simpa using ni) (old b o e)
  · have e : i = 0 := by omega
    rw [e, hx]
    exact Int.le_refl _
end
def rMaxK (K : PySem.W.Frag) : List V → List V → Hp → VK → Prop := fun vs zs H Q => ∃ (a : Addr) (ns : List Int), vs = [V.ref a] ∧ zs = [.ty "int"] ∧ SqL K H a (ns.map V.int) ∧ 0 < ns.length ∧ ∀ m, m ∈ ns → (∀ y, y ∈ ns → y ≤ m) → Q (.int m) H
theorem ck_max {X : Cx} (hc : X.calm = true) : CallRK X (.builtin "max") ["key"] (rMaxK X.K) := by
  intro pins s σ H xs zs us ws Q I r r2 h
  obtain ⟨a, ns, rfl, rfl, hs, hne, q⟩ := h
  obtain ⟨its, rv, hl, _⟩ := I.list hs
  obtain ⟨u, rfl, ru⟩ := vals1 r2
  cases ru
  rw [Vals.ref1 r]
  exact max_key_int (I.ok.hd hc) hl.isList rv.ints hne fun h' tk m t' hk h1 h2 => ⟨.int _, H, I.kept hk, ⟨_, rfl⟩, q m h1 h2⟩
end MxK
/-! ## an object of a built-in type without the number's slot, left of an own instance -/
namespace Own
open PySem PySem.Spec PyProof.Rows
section
variable {prog : Program} {w : World} {A : Around} {E : Value → Shared → Prop} {s : Shared} {K : PySem.W.Frag} {x C dx f f0 : Addr} {od : Option Obj} {op : Operator} {T : String}
theorem binR0 {a : Value} {Q : Value → Shared → Prop} (KX : K.In s.heap) (I : PySem.W.InstAt s.heap x (PySem.W.instObj C dx) C od) (hc : PySem.W.selfFirst K C = true) (ta : PySem.W.Looks (model prog w) s.heap (typeOf a) (.type T))
    (h0 : PySem.W.findIn K (.ref C) (PySem.dunder op.info.2) = some (some (.ref f0))) (h1 : PySem.W.findIn K (.ref C) (dunderR op.info.2) = some (some (.ref f))) (hf : PySem.W.isFn K (.ref f) = true)
    (hfill : PySem.W.Looks (model prog w) s.heap (fillsNumberSlot (.type T) op.info.2) false)
    (h : wpAny (model prog w) A (call (.ref f) [.ref x, a]) (PySem.W.CmpBack Q) E s) : wpAny (model prog w) A (binaryOp op a (.ref x)) Q E s := by
  obtain ⟨cd, rest, hcd, hm⟩ := PySem.W.ksp_first hc
  rcases hi : op.info with ⟨sym, nm⟩
  rw [hi] at h0 h1 hfill
  dsimp only at h0 h1 hfill
  have two := PySem.W.ksp_try KX I h1 hf h
  obtain ⟨hh, g, d, tt, os⟩ := s
  have L1 : PySem.W.Looks (model prog w) hh (typeOf (.ref x)) (.ref C) := I.type
  have L3 : PySem.W.Looks (model prog w) hh (fillsNumberSlot (.ref C) nm) true := PySem.W.fills_K KX hcd hm h0
  have nc : (Value.type T == Value.ref C) = false := Bool.eq_false_iff.mpr fun q => nomatch beq_iff_eq.mp q
  simp only [binaryOp, hi]
  refine wpAny_holding (wpAny_bind (?_ : _))
  unfold binaryOp1
  refine wpAny_bind (ta.at (wpAny_bind (L1.at (wpAny_bind (hfill.at ?_)))))
  simp only [nc, Bool.false_eq_true, if_false]
  refine wpAny_bind (L3.at (?_ : _))
  simp only [Bool.false_and, Bool.false_eq_true, if_false, pure_bind, Bool.not_false, Bool.and_self, if_true]
  refine wpAny_bind (wpAny_mono two (fun r s' q => ?_) fun _ _ e => e)
  obtain ⟨v, rfl, q⟩ := q
  exact wpAny_bind (wpAny_rule (wpAny_pure (wpAny_pure q)))
end
end Own
namespace Own
open PySem PySem.Spec PyProof.Rows L2
section
variable {prog : Program} {w : World} {A : Around} {E : Value → Shared → Prop} {s : Shared} {K : PySem.W.Frag} {x C dx f f0 : Addr} {od : Option Obj} {op : Operator} {T : String}
theorem binT0 {b : Value} {Q : Value → Shared → Prop} (KX : K.In s.heap) (I : PySem.W.InstAt s.heap x (PySem.W.instObj C dx) C od) (hc : PySem.W.selfFirst K C = true) (tb : PySem.W.Looks (model prog w) s.heap (typeOf b) (.type T))
    (h0 : PySem.W.findIn K (.ref C) (PySem.dunder op.info.2) = some (some (.ref f))) (hf : PySem.W.isFn K (.ref f) = true) (hfill : PySem.W.Looks (model prog w) s.heap (fillsNumberSlot (.type T) op.info.2) false)
    (h : wpAny (model prog w) A (call (.ref f) [.ref x, b]) (PySem.W.CmpBack Q) E s) : wpAny (model prog w) A (binaryOp op (.ref x) b) Q E s := by
  obtain ⟨cd, rest, hcd, hm⟩ := PySem.W.ksp_first hc
  rcases hi : op.info with ⟨sym, nm⟩
  rw [hi] at h0 hfill
  dsimp only at h0 hfill
  have one := PySem.W.ksp_try KX I h0 hf h
  obtain ⟨hh, g, d, tt, os⟩ := s
  have L1 : PySem.W.Looks (model prog w) hh (typeOf (.ref x)) (.ref C) := I.type
  have L3 : PySem.W.Looks (model prog w) hh (fillsNumberSlot (.ref C) nm) true := PySem.W.fills_K KX hcd hm h0
  have nc : (Value.ref C == Value.type T) = false := Bool.eq_false_iff.mpr fun q => nomatch beq_iff_eq.mp q
  simp only [binaryOp, hi]
  refine wpAny_holding (wpAny_bind (?_ : _))
  unfold binaryOp1
  refine wpAny_bind (L1.at (wpAny_bind (tb.at (wpAny_bind (L3.at (?_ : _))))))
  simp only [nc, Bool.false_eq_true, if_false]
  refine wpAny_bind (hfill.at (?_ : _))
  simp only [Bool.and_false, Bool.false_and, Bool.false_eq_true, if_false, pure_bind, Bool.not_false, Bool.and_self, if_true]
  refine wpAny_bind (wpAny_mono one (fun r s' q => ?_) fun _ _ e => e)
  obtain ⟨v, rfl, q⟩ := q
  exact wpAny_pure (wpAny_pure q)
end
section
variable {X : Cx} {CX : CXT} {k : Nat} {f C : Addr} {fd : FuncData} {ps : List Str} {sp : Sp} {E : XK} {op : Operator} {Ts : List String}
/-- built-in types that have no number's slot -/
structure NoSlot (K : PySem.W.Frag) (op : Operator) (T : String) : Prop where
  l : ∃ fo ro, PySem.W.findIn K (.type T) (PySem.dunder op.info.2) = some fo ∧ PySem.W.findIn K (.type T) (dunderR op.info.2) = some ro ∧ ((fo.isSome && !isSeqSlot fo) || (ro.isSome && !isSeqSlot ro)) = false
theorem NoSlot.fills {K : PySem.W.Frag} {T : String} {M : Model} {h : Heap} (Z : NoSlot K op T) (KX : K.In h) : PySem.W.Looks M h (fillsNumberSlot (.type T) op.info.2) false := by
  obtain ⟨fo, ro, h1, h2, e⟩ := Z.l
  have z := PySem.W.ksp_fillsT (M := M) KX h1 h2
  rw [e] at z
  exact z
/-- any object of such a type left of an own instance: the reflected operator is asked -/
def rOddL (K : PySem.W.Frag) (C : Addr) (Ts : List String) (sp : Sp) (E : XK) : R2 := fun x y H Q => ∃ a dx fs T, y = .ref a ∧ H a = some (.ins C dx fs) ∧ T ∈ Ts ∧ TyX K H x (.type T) ∧ sp [.ref a, x] H Q E
theorem opL0 (F : FnOk X.prog X.w X.K X.mg X.base CX k f fd ps sp) (hr : Room k X.A) (Z : BinR X.K C f op) (N : ∀ T ∈ Ts, NoSlot X.K op T) (hb : Binds X.K fd ps []) (hx : Passes CX X E) : OpR X (binaryOp op) (rOddL X.K C Ts sp E) := by
  rintro pins s σ H x y u v Q I rx ry ⟨a, dx, fs, T, rfl, ha, hT, ty, q⟩
  cases ry
  obtain ⟨od, J⟩ := inst I ha
  obtain ⟨z1, ⟨f0, z2⟩, z3, z4, z5⟩ := Z
  exact binR0 I.kIn J z1 (typed I rx ty) z2 z3 z4 ((N T hT).fills I.kIn) (back (run2 (x := .ref a) F hr hb hx I rfl rx q))
/-- any object of such a type right of an own instance -/
def rOddR (K : PySem.W.Frag) (C : Addr) (Ts : List String) (sp : Sp) (E : XK) : R2 := fun x y H Q => ∃ a dx fs T, x = .ref a ∧ H a = some (.ins C dx fs) ∧ T ∈ Ts ∧ TyX K H y (.type T) ∧ sp [.ref a, y] H Q E
theorem opR0 (F : FnOk X.prog X.w X.K X.mg X.base CX k f fd ps sp) (hr : Room k X.A) (B : Bin X.K C f op) (N : ∀ T ∈ Ts, NoSlot X.K op T) (hb : Binds X.K fd ps []) (hx : Passes CX X E) : OpR X (binaryOp op) (rOddR X.K C Ts sp E) := by
  rintro pins s σ H x y u v Q I rx ry ⟨a, dx, fs, T, rfl, ha, hT, ty, q⟩
  cases rx
  obtain ⟨od, J⟩ := inst I ha
  exact binT0 I.kIn J B.first (typed I ry ty) B.at_ B.fn ((N T hT).fills I.kIn) (back (run2 (x := .ref a) F hr hb hx I rfl ry q))
end
end Own
namespace Own
open PySem PySem.Spec PyProof.Rows
section
variable {prog : Program} {w : World} {A : Around} {E : Value → Shared → Prop} {s : Shared} {K : PySem.W.Frag} {x C dx f f0 : Addr} {od : Option Obj} {op : Operator} {id : String}
theorem declB_add {b : Bool} {Q : Shared → Prop} (h : s.heap.get? x = some (PySem.W.instObj C dx)) (hq : Q s) :
    wpAny (model prog w) A (Builtin.«int.__add__» ⟨[.bool b, .ref x], []⟩) (fun fin s' => ∃ v, fin = .done (.ret v) ∧ v = .notImplemented ∧ Q s') E s := by
  obtain ⟨hp, g, d, tk, os⟩ := s
  wp_walk using wpAny_load h
  exact ⟨_, rfl, rfl, hq⟩
theorem declB_sub {b : Bool} {Q : Shared → Prop} (h : s.heap.get? x = some (PySem.W.instObj C dx)) (hq : Q s) :
    wpAny (model prog w) A (Builtin.«int.__sub__» ⟨[.bool b, .ref x], []⟩) (fun fin s' => ∃ v, fin = .done (.ret v) ∧ v = .notImplemented ∧ Q s') E s := by
  obtain ⟨hp, g, d, tk, os⟩ := s
  wp_walk using wpAny_load h
  exact ⟨_, rfl, rfl, hq⟩
theorem declB_mul {b : Bool} {Q : Shared → Prop} (h : s.heap.get? x = some (PySem.W.instObj C dx)) (hq : Q s) :
    wpAny (model prog w) A (Builtin.«int.__mul__» ⟨[.bool b, .ref x], []⟩) (fun fin s' => ∃ v, fin = .done (.ret v) ∧ v = .notImplemented ∧ Q s') E s := by
  obtain ⟨hp, g, d, tk, os⟩ := s
  wp_walk using wpAny_load h
  exact ⟨_, rfl, rfl, hq⟩
theorem slotB_add : Slot "bool" "__add__" "int.__add__" :=
  .of (T := "bool") (name := "__add__") (owner := "int") (n := "__add__") (by rw [typeLookup_type, builtinLookup_eq_fast]; kernel_rfl) (by decide +kernel) (by decide +kernel) (by decide +kernel) (.inl (by decide +kernel)) (by rw [isSubtype_type]; kernel_rfl)
theorem slotB_sub : Slot "bool" "__sub__" "int.__sub__" :=
  .of (T := "bool") (name := "__sub__") (owner := "int") (n := "__sub__") (by rw [typeLookup_type, builtinLookup_eq_fast]; kernel_rfl) (by decide +kernel) (by decide +kernel) (by decide +kernel) (.inl (by decide +kernel)) (by rw [isSubtype_type]; kernel_rfl)
theorem slotB_mul : Slot "bool" "__mul__" "int.__mul__" :=
  .of (T := "bool") (name := "__mul__") (owner := "int") (n := "__mul__") (by rw [typeLookup_type, builtinLookup_eq_fast]; kernel_rfl) (by decide +kernel) (by decide +kernel) (by decide +kernel) (.inl (by decide +kernel)) (by rw [isSubtype_type]; kernel_rfl)
end
end Own
namespace Own
open PySem PySem.Spec PyProof.Rows
section
variable {prog : Program} {w : World} {A : Around} {E : Value → Shared → Prop} {s : Shared} {K : PySem.W.Frag} {x C dx f f0 : Addr} {od : Option Obj} {op : Operator} {id : String}
/-- a truth declines an operator beside an instance, then the instance's reflected one is asked -/
theorem binRB {p : Bool} {Q : Value → Shared → Prop} (KX : K.In s.heap) (I : PySem.W.InstAt s.heap x (PySem.W.instObj C dx) C od) (hc : PySem.W.selfFirst K C = true)
    (h0 : PySem.W.findIn K (.ref C) (PySem.dunder op.info.2) = some (some (.ref f0))) (h1 : PySem.W.findIn K (.ref C) (dunderR op.info.2) = some (some (.ref f))) (hf : PySem.W.isFn K (.ref f) = true)
    (hsub : PySem.W.subIn K (.ref C) (.type "bool") = some false) (hfill : fillsNumberSlot (.type "bool") op.info.2 = pure true) (slot : Slot "bool" (PySem.dunder op.info.2) id)
    (decl : wpAny (model prog w) A (call (.builtin id) [.bool p, .ref x]) (fun v s' => v = .notImplemented ∧ s'.heap = s.heap ∧ s'.gens = s.gens ∧ s'.drawn = s.drawn ∧ s'.os = s.os ∧ s'.toks = s.toks) E s)
    (h : wpAny (model prog w) A (call (.ref f) [.ref x, .bool p]) (PySem.W.CmpBack Q) E s) : wpAny (model prog w) A (binaryOp op (.bool p) (.ref x)) Q E s := by
  obtain ⟨cd, rest, hcd, hm⟩ := PySem.W.ksp_first hc
  rcases hi : op.info with ⟨sym, nm⟩
  rw [hi] at h0 h1 hfill slot
  dsimp only at h0 h1 hfill slot
  have two := PySem.W.ksp_try KX I h1 hf h
  obtain ⟨hh, g, d, tt, os⟩ := s
  have L1 : PySem.W.Looks (model prog w) hh (typeOf (.ref x)) (.ref C) := I.type
  have L3 : PySem.W.Looks (model prog w) hh (fillsNumberSlot (.ref C) nm) true := PySem.W.fills_K KX hcd hm h0
  have L5 : PySem.W.Looks (model prog w) hh (isSubtype (.ref C) (.type "bool")) false := PySem.W.looks_subIn KX hsub
  have hne : (Value.type "bool" == Value.ref C) = false := Bool.eq_false_iff.mpr fun q => by cases beq_iff_eq.mp q
  have hpy : numberSlotInPython (.type "bool") nm = pure false := rfl
  have one : wpAny (model prog w) A (tryMethod (.bool p) (PySem.dunder nm) (.ref x)) (fun r s' => r = none ∧ s'.heap = hh ∧ s'.gens = g ∧ s'.drawn = d ∧ s'.os = os ∧ s'.toks = tt) E ⟨hh, g, d, tt, os⟩ :=
    wpAny_tryMethod_declines (T := "bool") (typeIs_bool' _ p) slot (wpAny_mono decl (fun v s' q => ⟨q.1, rfl, q.2⟩) fun _ _ e => e)
  simp only [binaryOp, hi]
  refine wpAny_holding (wpAny_bind ?_)
  unfold binaryOp1
  refine wpAny_bind (wpAny_typeOf (typeIs_bool' _ p) (wpAny_bind (L1.at (wpAny_bind (wpAny_of_eq hfill ?_)))))
  simp only [hne, Bool.false_eq_true, if_false]
  refine wpAny_bind (L3.at ?_)
  simp only [Bool.and_self, if_true]
  refine wpAny_bind (L5.at ?_)
  simp only [Bool.false_eq_true, if_false, pure_bind, Bool.not_false, Bool.and_self, if_true, hpy]
  refine wpAny_bind (wpAny_mono one (fun r s' q => ?_) fun _ _ e => e)
  obtain ⟨h1, g1, d1, t1, o1⟩ := s'
  obtain ⟨rfl, q1, q2, q3, q4, q5⟩ := q
  dsimp only at q1 q2 q3 q4 q5
  subst q1 q2 q3 q4 q5
  dsimp only
  refine wpAny_bind (wpAny_mono two (fun r s' q => ?_) fun _ _ e => e)
  obtain ⟨v, rfl, q⟩ := q
  exact wpAny_bind (wpAny_rule (wpAny_pure (wpAny_pure q)))
end
end Own
namespace Own
open PySem PySem.Spec PyProof.Rows L2
section
variable {X : Cx} {CX : CXT} {k : Nat} {f C : Addr} {fd : FuncData} {ps : List Str} {sp : Sp} {E : XK} {op : Operator}
def rRightB (C : Addr) (sp : Sp) (E : XK) : R2 := fun x y H Q => ∃ i a dx fs, x = .bl i ∧ y = .ref a ∧ H a = some (.ins C dx fs) ∧ sp [.ref a, .bl i] H Q E
theorem opRB_of {id : String} {B : Builtin} (hfill : fillsNumberSlot (.type "bool") op.info.2 = pure true) (slot : Slot "bool" (PySem.dunder op.info.2) id) (entry : entryFor table id = some B) (args : ∀ a b : Value, argsOk id ⟨[a, b], []⟩)
    (decl : ∀ {prog : Program} {w : World} {A : Around} {E : Value → Shared → Prop} {s : Shared} {x C dx : Addr} {p : Bool} {Q : Shared → Prop}, s.heap.get? x = some (PySem.W.instObj C dx) → Q s →
      wpAny (model prog w) A (B ⟨[.bool p, .ref x], []⟩) (fun fin s' => ∃ v, fin = .done (.ret v) ∧ v = .notImplemented ∧ Q s') E s)
    (F : FnOk X.prog X.w X.K X.mg X.base CX k f fd ps sp) (hr : Room k X.A) (Z : BinR X.K C f op) (zb : PySem.W.subIn X.K (.ref C) (.type "bool") = some false) (hb : Binds X.K fd ps []) (hx : Passes CX X E) : OpR X (binaryOp op) (rRightB C sp E) := by
  rintro pins s σ H x y u v Q I rx ry ⟨i, a, dx, fs, rfl, rfl, ha, q⟩
  cases (show u = Value.bool i from rx)
  cases ry
  obtain ⟨od, J⟩ := inst I ha
  obtain ⟨z1, ⟨f0, z2⟩, z3, z4, z5⟩ := Z
  exact binRB I.kIn J z1 z2 z3 z4 zb hfill slot (wpAny_call_entry slot (typeIs_bool' s i) entry (wpAny_mono (decl (Q := fun s' => s'.heap = s.heap ∧ s'.gens = s.gens ∧ s'.drawn = s.drawn ∧ s'.os = s.os ∧ s'.toks = s.toks) J.at_ ⟨rfl, rfl, rfl, rfl, rfl⟩) (fun fin s' ⟨v, e, q⟩ => ⟨v, e, q⟩) fun _ _ e => e) (args _ _))
    (back (run2 (x := .ref a) (y := .bl i) F hr hb hx I rfl rfl q))
theorem opRBadd (F : FnOk X.prog X.w X.K X.mg X.base CX k f fd ps sp) (hr : Room k X.A) (Z : BinR X.K C f .Add) (zb : PySem.W.subIn X.K (.ref C) (.type "bool") = some false) (hb : Binds X.K fd ps []) (hx : Passes CX X E) : OpR X (binaryOp .Add) (rRightB C sp E) :=
  opRB_of PySem.F.fills_bool_add slotB_add PySem.F.entry_int_add PySem.F.args_int_add_2 declB_add F hr Z zb hb hx
theorem opRBsub (F : FnOk X.prog X.w X.K X.mg X.base CX k f fd ps sp) (hr : Room k X.A) (Z : BinR X.K C f .Sub) (zb : PySem.W.subIn X.K (.ref C) (.type "bool") = some false) (hb : Binds X.K fd ps []) (hx : Passes CX X E) : OpR X (binaryOp .Sub) (rRightB C sp E) :=
  opRB_of PySem.F.fills_bool_sub slotB_sub PySem.F.entry_int_sub PySem.F.args_int_sub_2 declB_sub F hr Z zb hb hx
theorem opRBmul (F : FnOk X.prog X.w X.K X.mg X.base CX k f fd ps sp) (hr : Room k X.A) (Z : BinR X.K C f .Mult) (zb : PySem.W.subIn X.K (.ref C) (.type "bool") = some false) (hb : Binds X.K fd ps []) (hx : Passes CX X E) : OpR X (binaryOp .Mult) (rRightB C sp E) :=
  opRB_of PySem.F.fills_bool_mul slotB_mul PySem.F.entry_int_mul PySem.F.args_int_mul_2 declB_mul F hr Z zb hb hx
end
end Own
/-! ## [x for x, b in zip(xs, bs) if b], bs a list of truths -/
namespace Rd
open PySem PySem.Spec PyProof.Rows L2
theorem wipe2 {σ : L2.St} {i j : Nat} {a b : Option V} (h : i ≠ j) : wipe (((wipe σ [i, j]).set i a).set j b) [i, j] = wipe σ [i, j] := by
  show (((((σ.set j none).set i none).set i a).set j b).set j none).set i none = (σ.set j none).set i none
  rw [List.set_set, List.set_set, List.set_comm _ _ h, List.set_set, List.set_set]
theorem lcZip {names : List V} {bs : List Bool} {K : PySem.W.Frag} {a b : Addr} {i1 i2 j1 j2 : Nat} {σ : L2.St} {H : Hp} {Q : VK} (hl : names.length = bs.length) (hn : names.length ≤ 1000) (e1 : σ[j1]? = some (some (.ref a))) (e2 : σ[j2]? = some (some (.ref b)))
    (h1 : SqL K H a names) {ws : List V} (h2' : SqL K H b ws) (ew : ws = bs.map V.bl)
    (hij : i1 ≠ i2) (li : i1 < σ.length) (lj : i2 < σ.length)
    (k : ∀ (p : Addr) (H' : Hp), H p = none → Same H H' → H' p = some (.lst (((names.zip bs).filter (·.2)).map (·.1))) → Q (.ref p) H') :
    tLc (iZip K (tCons (tVar j1) (tCons (tVar j2) tNil))) (gTup K 2 (gCons (gName i1) (gCons (gName i2) gNil))) (tB (tVar i2)) (tVar i1) [i1, i2] σ H Q := by
  subst ew
  have h2 := h2'
  have hw : ∀ x y, wipe (((wipe σ [i1, i2]).set i1 (some x)).set i2 (some y)) [i1, i2] = wipe σ [i1, i2] := fun x y => wipe2 hij
  have g1 : ∀ x y, (((wipe σ [i1, i2]).set i1 (some x)).set i2 (some y))[i1]? = some (some x) := fun x y => by
    rw [List.getElem?_set_ne (Ne.symm hij), List.getElem?_set_self (by rw [wipe_length]; exact li)]
  have g2 : ∀ x y, (((wipe σ [i1, i2]).set i1 (some x)).set i2 (some y))[i2]? = some (some y) := fun x y => by
    rw [List.getElem?_set_self (by rw [List.length_set, wipe_length]; exact lj)]
  refine lc ⟨_, e1, _, e2, a, b, _, _, rfl, h1, h2, fun D hD => lc_it (walk_zip (n := names.length) (by rw [List.length_map, ← hl, Nat.min_self])) (fun t H' => Same H H' ∧ H' D = some (.lst ((((names.zip bs).take t).filter (·.2)).map (·.1)))) ⟨same_upd hD (Same.refl _), upd_same⟩
    (fun t H' _ p => ⟨p.1.seq h1, p.1.seq h2⟩) (fun t v H0 H' ht p y => ?_) (fun H' p => ?_)⟩
  · obtain ⟨S, hd⟩ := p
    obtain ⟨T, x, y, rfl, hT, rfl, hx, hy⟩ := y
    dsimp only at hx hy
    have htb : t < bs.length := by omega
    have ey : y = .bl bs[t] := by
      rw [List.getElem?_map, List.getElem?_eq_getElem htb] at hy
      exact (Option.some.inj hy).symm
    subst ey
    have ex : names[t] = x := by
      rw [List.getElem?_eq_getElem ht] at hx
      exact Option.some.inj hx
    have nd : D ≠ T := ne_of_none hd hT
    have S' : Same H (upd H0 T (.tup [x, .bl bs[t]])) := same_upd (Same.free S hT) S
    have hd' : upd H0 T (.tup [x, .bl bs[t]]) D = some (.lst ((((names.zip bs).take t).filter (·.2)).map (·.1))) := by rw [upd_ne nd]; exact hd
    have tk : (names.zip bs).take (t + 1) = (names.zip bs).take t ++ [(x, bs[t])] := by
      rw [List.take_add_one, List.getElem?_eq_getElem (by rw [List.length_zip]; omega), List.getElem_zip, ex]
      rfl
    refine gtup (SqT.of upd_same) rfl (gcons (name (gcons (name (gnil ⟨hw _ _, tb (var (g2 _ _) (bl ?_))⟩)))))
    cases hb : bs[t] with
    | true =>
      rw [hb] at hd' S' tk
      refine iteT rfl (var (g1 _ _) ⟨_, hd', ?_, same_upd hD S', ?_⟩)
      · rw [List.length_map]
        refine small1000 (Nat.le_trans (List.length_filter_le _ _) ?_)
        rw [List.length_take, List.length_zip]
        omega
      · rw [upd_same, tk, List.filter_append, List.map_append]
        rfl
    | false =>
      rw [hb] at hd' S' tk
      refine iteF rfl ⟨S', ?_⟩
      rw [hd', tk, List.filter_append, List.map_append]
      simp
  · obtain ⟨S, hd⟩ := p
    rw [List.take_of_length_le (by rw [List.length_zip]; omega)] at hd
    exact k D H' hD S hd
end Rd
/-! ## isinstance of a caught error whatever its class; a call of a def that a name holds, whatever it is -/
namespace Ex2
open PySem PySem.Spec PyProof.Rows L2
def rIsE2 (K : PySem.W.Frag) (cls : Value) (d : Option Addr) (a : Addr) : List V → Hp → VK → Prop := fun xs H Q => ∃ D, cls = .ref D ∧ d = none ∧ ExcC K D ∧ rIsE K D a xs H Q
theorem call_isE2 {X : Cx} {K : PySem.W.Frag} (eK : X.K = K) {a : Addr} {cls : Value} {d : Option Addr} {oe : Obj} {pn : List (Addr × Obj)} (hz : Zc cls d oe) (hf : ∃ vs, oe.data = .fields vs) : CallR (X.suite a ((a, oe) :: pn)) (.builtin "isinstance") (rIsE2 K cls d a) := by
  subst eK
  rintro pins s σ H xs us Q I r ⟨D, rfl, rfl, C, q⟩
  exact call_isE C hz hf pins s σ H xs us Q I r q
/-- a def at f keeps sp, and may let errors out as sp says -/
structure HeldX (P : Program) (w : World) (K : PySem.W.Frag) (mg : Str → Option Value) (base : Heap) (k : Nat) (f : Addr) (sp : Sp) : Prop where
  ex : ∃ (j : Nat) (fd : FuncData) (ps : List Str), j ≤ k ∧ FnOk P w K mg base (L2.CX P w) j f fd ps sp ∧ PySem.W.keepIn K (.ref f) = true ∧ Binds K fd ps []
def tCallX (P : Program) (w : World) (K : PySem.W.Frag) (mg : Str → Option Value) (base : Heap) (k i : Nat) (E : L2.St → XK) (t : TA) : TE := fun σ H Q => ∃ f sp, HeldX P w K mg base k f sp ∧ σ[i]? = some (some (.ref f)) ∧ t σ H fun vs H1 => sp vs H1 Q (E σ)
section
variable {X : Cx} {k i : Nat} {E : L2.St → XK} {x : Str} {p pos : Pos} {e : Expr} {es : List Expr} {t : TA}
theorem pe_callX {P : Program} {w : World} {K : PySem.W.Frag} {mg : Str → Option Value} {base : Heap} (e1 : X.prog = P) (e2 : X.w = w) (e3 : X.K = K) (e4 : X.mg = mg) (e5 : X.base = base) (hr : Room k X.A) (hN : X.N[i]? = some x) (hv : Vis X.env.scope x) (hx : ∀ σ, PassesAt (L2.CX X.prog X.w) X σ (E σ)) (ha : PA X (e :: es) t)
    (h1 : (x == ("__debug__" : Str)) = false := by decide) (h2 : (x == ("__classdict__" : Str)) = false := by decide) (h3 : starEach (e :: es) X.env = (false, eval e X.env) :: starEach es X.env := by rfl) (h4 : (backTo pos (starEach es X.env)).any (·.1) = false := by rfl) :
    PE X (.Call (.Name x p) (e :: es) [] pos) (tCallX P w K mg base k i E t) := by
  subst e1 e2 e3 e4 e5
  refine ⟨fun pins s σ H Q I ⟨f, sp, ⟨⟨j, fd, ps, hj, F, kp, bd⟩⟩, at_, rest⟩ => ?_⟩
  refine wpAny_Call_Name_kw (thn ((pe_var (pos := p) hN hv h1 h2).run pins s σ H (fun w1 Hq => w1 = .ref f ∧ Hq = H) I ⟨.ref f, at_, rfl, rfl⟩) fun u s1 ⟨w1, Hq, I1, r1, ⟨e1, e2⟩⟩ => ?_)
  subst e1 e2
  cases r1
  exact PySem.W.callWith_K (h₀ := X.base) I.ok.mod.kin kp (thn (ha.run pos pins s1 σ _ _ I1 rest) fun us s2 ⟨vs, H2, I2, r, q⟩ => ⟨I2.kIn, run_fnS F (hr.mono hj) bd (hx σ) I2 r q⟩) h3 h4
end
end Ex2
/-! ## objects that are no integers; loops over written lists; one item of a list of anything -/
namespace Rd
open PySem PySem.Spec PyProof.Rows L2
def TS1 : List String := ["NoneType", "tuple", "list", "dict"]
/-- an address is marked as the source's -/
def IsSrc (_ : Addr) : Prop := True
def TS0 : List String := ["NoneType", "str", "tuple", "list", "dict"]
/-- none, a text, a tuple, a list of another length than two, a dict -/
inductive OddN (H : Hp) : V → Prop where
  | non : OddN H .non
  | str (x : Str) : OddN H (.str x)
  | tup {p : Addr} {xs : List V} (e : H p = some (.tup xs)) : OddN H (.ref p)
  | lst {p : Addr} {xs : List V} (e : H p = some (.lst xs)) (n : xs.length ≠ 2) : OddN H (.ref p)
  | dK {p : Addr} {kvs : List (Key × V)} (e : H p = some (.dK kvs)) : OddN H (.ref p)
theorem OddN.ty {K : PySem.W.Frag} {H : Hp} {v : V} : OddN H v → ∃ T, T ∈ TS0 ∧ TyX K H v (.type T)
  | .non => ⟨_, by decide, .base .non⟩
  | .str x => ⟨_, by decide, .base (.str x)⟩
  | .tup e => ⟨_, by decide, .base (.tup e)⟩
  | .lst e _ => ⟨_, by decide, .base (.lst e)⟩
  | .dK e => ⟨_, by decide, .base (.dK e)⟩
theorem OddN.same {H H' : Hp} {v : V} (S : Same H H') : OddN H v → OddN H' v
  | .non => .non
  | .str x => .str x
  | .tup e => .tup (S _ _ e)
  | .lst e n => .lst (S _ _ e) n
  | .dK e => .dK (S _ _ e)
theorem OddN.ty1 {K : PySem.W.Frag} {H : Hp} {v : V} : OddN H v → (∃ x, v = .str x) ∨ ∃ T, T ∈ TS1 ∧ TyX K H v (.type T)
  | .non => .inr ⟨_, by decide, .base .non⟩
  | .str x => .inl ⟨_, rfl⟩
  | .tup e => .inr ⟨_, by decide, .base (.tup e)⟩
  | .lst e _ => .inr ⟨_, by decide, .base (.lst e)⟩
  | .dK e => .inr ⟨_, by decide, .base (.dK e)⟩
theorem OddN.new {H : Hp} {v : V} {p : Addr} {o : HO} (n : H p = none) (h : OddN H v) : OddN (upd H p o) v := h.same fun b u e => by
  rw [upd_ne (ne_of_none e n)]; exact e
theorem OddN.two {H : Hp} {v : V} {a : Addr} {x y : V} {o : HO} (e : H a = some (.lst [x, y])) (h : OddN H v) : OddN (upd H a o) v := by
  cases h with
  | non => exact .non
  | str x => exact .str x
  | tup q => exact .tup (by rw [upd_ne (ne_of q e (by intro z; cases z))]; exact q)
  | lst q n => exact .lst (by rw [upd_ne (ne_of q e (by intro z; cases z; exact n rfl))]; exact q) n
  | dK q => exact .dK (by rw [upd_ne (ne_of q e (by intro z; cases z))]; exact q)
theorem tyof_same {K : PySem.W.Frag} {H H' : Hp} {y : V} {t : Value} (S : Same H H') (h : TyOf K H y t) : TyOf K H' y t := by
  cases h with
  | non => exact .non
  | bl x => exact .bl x
  | int x => exact .int x
  | str x => exact .str x
  | flt x => exact .flt x
  | lst e => exact .lst (S _ _ e)
  | frz e => exact .frz (S _ _ e)
  | tup e => exact .tup (S _ _ e)
  | dK e => exact .dK (S _ _ e)
  | dT e => exact .dT (S _ _ e)
  | ins e c a n k m => exact .ins (S _ _ e) c a n k m
theorem tyx_same {K : PySem.W.Frag} {H H' : Hp} {y : V} {t : Value} (S : Same H H') (h : TyX K H y t) : TyX K H' y t := by
  cases h with
  | base b => exact .base (tyof_same S b)
  | byt b => exact .byt b
  | set e => exact .set (S _ _ e)
  | kList e c => exact .kList e c
  | kTuple e c => exact .kTuple e c
  | kDict e c => exact .kDict e c
  | fTuple e => exact .fTuple (S _ _ e)
  | fDict e => exact .fDict (S _ _ e)
theorem kit_TS_int {K : PySem.W.Frag} : ∀ T ∈ TS0, PySem.W.kitOne K (.type T) (.type "int") = some false := by
  intro T h
  simp only [TS0, List.mem_cons, List.not_mem_nil, or_false] at h
  rcases h with rfl | rfl | rfl | rfl | rfl
  exact kit_none_int
  exact kit_str_int
  exact kit_tuple_int
  exact kit_list_int
  exact kit_dict_int
/-- .. or a truth -/
def OddV (H : Hp) (v : V) : Prop := OddN H v ∨ ∃ b, v = .bl b
theorem OddV.same {H H' : Hp} {v : V} (S : Same H H') (h : OddV H v) : OddV H' v := h.imp (·.same S) id
theorem dp_ss {K : PySem.W.Frag} {H : Hp} {p : Addr} {a b : Str} (h : SqL K H p [.str a, .str b]) : Dp K H (.ref p) (.list [.str a, .str b]) := .lst h (.cons (.str _) (.cons (.str _) .nil))
theorem shaped_ss {a b : Str} (ha : PyData.strOk a = true) (hb : PyData.strOk b = true) : SeqAt.shaped (.list [.str a, .str b]) = true := by
  simp only [PySem.SeqAt.shaped, PySem.PyData.canLay0, PySem.PyData.canLayAll0, PySem.PyData.depth, PySem.PyData.depthAll, ha, hb]; rfl
theorem OddV.sameR {H H' : Hp} {v : V} (h : OddV H v) (S : Same H H') : OddV H' v := h.same S
theorem eqv_ss (a b : Str) : PyData.eqv (.list [.str a, .str b]) (.list [.str a, .str b]) = true := by simp [PyData.eqv, PyData.eqvAll]
/-- of a list of anything one item: what all its items keep -/
theorem pickV (P : Hp → V → Prop) {K : PySem.W.Frag} {H : Hp} {a : Addr} {xs : List V} {d : Int} {Q : VK} (e : SqL K H a xs) (hm : ∀ v ∈ xs, P H v) (h0 : 0 ≤ d) (h1 : d < (xs.length : Int))
    (k : ∀ v, v ∈ xs → P H v → Q v H) : rIxL K (.ref a) (.int d) H Q := by
  obtain ⟨j, rfl⟩ : ∃ j : Nat, d = (j : Int) := ⟨d.toNat, by omega⟩
  have hj : j < xs.length := by omega
  exact ixL e (atI_nat (List.getElem?_eq_getElem hj)) (k _ (List.getElem_mem hj) (hm _ (List.getElem_mem hj)))
theorem catL {H : Hp} {l b : Addr} {xs zs : List V} {Q : VK} (h1 : H l = some (.lst xs)) (h2 : H b = some (.lst zs)) (n : xs.length + zs.length ≤ 1000) (k : ∀ p, H p = none → Q (.ref p) (upd H p (.lst (xs ++ zs)))) : rCat (.ref l) (.ref b) H Q :=
  ⟨l, b, xs, zs, rfl, rfl, h1, h2, Nat.le_of_lt (small1000 n), k⟩
/-- a loop over a list that is known whole, turn by turn -/
def unr (K : PySem.W.Frag) (a : Addr) (all : List V) (g : TG) (tb : TS) (D : Ends) : List V → L2.St → Hp → Prop
  | [], σ, H => D.nx σ H
  | x :: xs, σ, H => g x σ H fun σ2 H2 => tb { D with nx := fun σ' H' => SqL K H' a all ∧ unr K a all g tb D xs σ' H', ct := fun σ' H' => SqL K H' a all ∧ unr K a all g tb D xs σ' H', bk := D.nx } σ2 H2
theorem unroll {K : PySem.W.Frag} {a : Addr} {all : List V} {g : TG} {tb : TS} {D : Ends} {σ : L2.St} {H : Hp} (h0 : SqL K H a all) (h : unr K a all g tb D all σ H) :
    ∃ W : Nat → Nat → L2.St → Hp → Prop, (∃ m, W 0 m σ H) ∧ ∀ i m σ H, W i m σ H →
      ((Itl K a).stop i H ∧ D.nx σ H) ∨ ((Itl K a).go i H ∧ ∃ N : L2.St → Hp → Prop, (∀ σ' H', N σ' H' → ∃ m', m' < m ∧ W (i + 1) m' σ' H') ∧ ∀ x H', (Itl K a).yld i H x H' → g x σ H' fun σ2 H2 => tb { D with nx := N, ct := N, bk := D.nx } σ2 H2) := by
  refine for_list (xs := all) (fun i σ H => SqL K H a all ∧ unr K a all g tb D (all.drop i) σ H) ⟨h0, h⟩ (fun i σ H _ p => p.1) (fun i x σ H hx p => ?_) (fun σ H p => ?_)
  · have hi : i < all.length := (List.getElem?_eq_some_iff.mp hx).1
    have e : all.drop i = x :: all.drop (i + 1) := by rw [List.drop_eq_getElem_cons hi]; congr 1; exact (List.getElem?_eq_some_iff.mp hx).2
    have q := p.2
    rw [e] at q
    exact q
  · have q := p.2
    rw [List.drop_length] at q
    exact q
theorem unroll2 {K : PySem.W.Frag} {a : Addr} {all : List V} {g : TG} {tb : TS} {D : Ends} {σ : L2.St} {H : Hp} (h0 : SqL K H a all) (h : unr K a all g tb D all σ H) :
    (∃ xs, SqL K H a xs) ∧ ∃ W : Nat → Nat → L2.St → Hp → Prop, (∃ m, W 0 m σ H) ∧ ∀ i m σ H, W i m σ H →
      ((Itl K a).stop i H ∧ D.nx σ H) ∨ ((Itl K a).go i H ∧ ∃ N : L2.St → Hp → Prop, (∀ σ' H', N σ' H' → ∃ m', m' < m ∧ W (i + 1) m' σ' H') ∧ ∀ x H', (Itl K a).yld i H x H' → g x σ H' fun σ2 H2 => tb { D with nx := N, ct := N, bk := D.nx } σ2 H2) := ⟨⟨_, h0⟩, unroll h0 h⟩
theorem unrCons {K : PySem.W.Frag} {a : Addr} {all : List V} {g : TG} {tb : TS} {D : Ends} {x : V} {xs : List V} {σ : L2.St} {H : Hp}
    (h : g x σ H fun σ2 H2 => tb { D with nx := fun σ' H' => SqL K H' a all ∧ unr K a all g tb D xs σ' H', ct := fun σ' H' => SqL K H' a all ∧ unr K a all g tb D xs σ' H', bk := D.nx } σ2 H2) : unr K a all g tb D (x :: xs) σ H := h
theorem unrNil {K : PySem.W.Frag} {a : Addr} {all : List V} {g : TG} {tb : TS} {D : Ends} {σ : L2.St} {H : Hp} (h : D.nx σ H) : unr K a all g tb D [] σ H := h
/-- {k: v} of written values -/
theorem disp1 {σ : L2.St} {H : Hp} {Q : VK} {i : Int} {x : V} (h : ∀ p, H p = none → Q (.ref p) (upd H p (.dK [(.inl i, x)]))) : tDisp [(tC (.int i), tC x)] σ H Q :=
  fun p np => ⟨upd_same, [(.inl i, x)], rfl, Nat.le_of_ble_eq_true rfl, by rw [upd_upd]; exact h p np⟩
theorem newK {σ : L2.St} {H : Hp} {Q : VK} (h : ∀ p, H p = none → Q (.ref p) (upd H p (.dK []))) : tDNewK σ H Q := h
theorem ty_str {b : Str} : ∀ u, RelV (.str b) u → typeOf u = pure (.type "str") := by
  intro u r
  obtain ⟨t, q⟩ := (show ∃ t, u = Value.str b t from r)
  cases q
  rfl
theorem ty_bl {b : Bool} : ∀ u, RelV (.bl b) u → typeOf u = pure (.type "bool") := by
  intro u r
  cases (show u = Value.bool b from r)
  rfl
end Rd
/-! ## static methods, called by their class; a def's promise that is its own body; small helpers -/
namespace Sta
open PySem PySem.Spec PyProof.Rows L2
structure SMet (K : PySem.W.Frag) (C : Addr) (m : Str) (f : Addr) : Prop where
  rd : PySem.W.readsIn K C (.type "type") = true
  ga : PySem.W.specialIn K (.ref C) "__getattribute__" = some (some (.builtin "type.__getattribute__"))
  at_ : ∃ p rest, PySem.W.findCls K (.ref C) (.type "type") m = some (.get (.builtin "staticmethod.__get__") (.ref p) .none (.ref C)) ∧ PySem.W.recIn K p "staticmethod" = some (.ref f :: rest)
  kp : PySem.W.keepIn K (.ref f) = true
def tSMeth (C : Addr) (sp : Sp) (dvs : List V) (E : XK) (ta : TE) (t : TA) : TE := fun σ H Q => ta σ H fun x H1 => x = .ref C ∧ t σ H1 fun vs H2 => sp (vs ++ dvs) H2 Q E
section
variable {X : Cx} {CX : CXT} {k : Nat} {C f : Addr} {fd : FuncData} {ps : List Str} {ds : List Value} {dvs : List V} {sp : Sp} {E : XK} {o e : Expr} {es : List Expr} {m : Str} {pos apos : Pos} {ta : TE} {t : TA} {pl : Sem Bool}
theorem getmeth_sm {pins : List (Addr × Obj)} {σ : L2.St} {H : Hp} {s : Shared} {A : Around} {E' : Value → Shared → Prop} {Q : Value × List Value → Shared → Prop} (I : Inv X pins σ H s) (c : SMet X.K C m f)
    (h : ∀ s', Inv X pins σ H s' → Q (.ref f, []) s') : wpAny (model X.prog X.w) A (getMethod (.ref C) m pl) Q E' s := by
  obtain ⟨p, rest, a1, a2⟩ := c.at_
  exact PySem.W.method_cls I.kIn c.ga (PySem.W.cls_bind I.kIn c.rd a1 (wpAny_call (PySem.W.sm_get (s := { s with toks := s.toks + 1 }) I.kIn a2 (PySem.W.handed_on rfl (h _ (I.tok _))))))
theorem pe_smeth (he : PE X o ta) (c : SMet X.K C m f) (F : FnOk X.prog X.w X.K X.mg X.base CX k f fd ps sp) (hr : Room k X.A) (hb : Binds X.K fd ps ds) (hd : Vals dvs ds) (hx : Passes CX X E) (ha : PA X (e :: es) t)
    (hst : starEach (e :: es) X.env = (false, eval e X.env) :: starEach es X.env := by rfl) (hpl : (backTo pos (starEach es X.env)).any (·.1) = false := by rfl)
    (ht : eval (.Call (.Attribute o m apos) (e :: es) [] pos) X.env = (do
      let ov ← eval o X.env
      standAt apos.atName
      let (f, first) ← holding [ov] (getMethod ov m pl)
      callWith pos f first (backTo pos (starEach (e :: es) X.env)) (backToKw pos (keywordEach [] X.env))) := by rfl) :
    PE X (.Call (.Attribute o m apos) (e :: es) [] pos) (tSMeth C sp dvs E ta t) := by
  refine ⟨fun pins s σ H Q I h => ?_⟩
  refine PySem.W.methodCall_KW (pl := pl) (thn (he.run pins s σ H _ I h) fun u s1 ⟨x, H1, I1, rx, ex, q⟩ => ?_) ht
  subst ex
  obtain rfl : u = Value.ref C := rx
  refine getmeth_sm I1 c fun s2 I2 => ?_
  refine PySem.W.callWith_K (first := []) (h₀ := X.base) I2.ok.mod.kin c.kp (thn (ha.run pos pins s2 σ H1 _ I2 q) fun us s3 ⟨vs, H2, I3, r, q2⟩ => ⟨I3.kIn, ?_⟩) hst hpl
  exact run_fn (us := us) (vs := vs) F hr hb hd hx I3 r q2
theorem pe_smeth0 (he : PE X o ta) (c : SMet X.K C m f) (F : FnOk X.prog X.w X.K X.mg X.base CX k f fd ps sp) (hr : Room k X.A) (hb : Binds X.K fd ps ds) (hd : Vals dvs ds) (hx : Passes CX X E)
    (ht : eval (.Call (.Attribute o m apos) [] [] pos) X.env = (do
      let ov ← eval o X.env
      standAt apos.atName
      let (f, first) ← holding [ov] (getMethod ov m pl)
      callWith pos f first (backTo pos (starEach [] X.env)) (backToKw pos (keywordEach [] X.env))) := by rfl) :
    PE X (.Call (.Attribute o m apos) [] [] pos) (tSMeth C sp dvs E ta tNil) := by
  refine ⟨fun pins s σ H Q I h => ?_⟩
  refine PySem.W.methodCall_KW (pl := pl) (thn (he.run pins s σ H _ I h) fun u s1 ⟨x, H1, I1, rx, ex, q⟩ => ?_) ht
  subst ex
  obtain rfl : u = Value.ref C := rx
  refine getmeth_sm I1 c fun s2 I2 => ?_
  exact PySem.W.callWith_K0 (first := []) I2.kIn c.kp (run_fn (us := []) (vs := []) F hr hb hd hx I2 .nil q)
/-- a def that may raise, called where nothing may leave -/
theorem passF {X : Cx} : Passes (L2.CX X.prog X.w) X E0 := fun _ _ _ _ _ _ _ ⟨_, _, _, _, _, _, _, _, _, _, _, _, z⟩ => z.elim
end
end Sta
namespace Rd
open PySem PySem.Spec PyProof.Rows L2
section
variable {σ : L2.St} {H : Hp} {Q : VK} {D : Ends} {K : PySem.W.Frag}
theorem smeth {C : Addr} {sp : Sp} {dvs : List V} {E : XK} {ta : TE} {t : TA} (h : ta σ H fun x H1 => x = .ref C ∧ t σ H1 fun vs H2 => sp (vs ++ dvs) H2 Q E) : Sta.tSMeth C sp dvs E ta t σ H Q := h
theorem m0 {r : V → List V → Hp → VK → Prop} {to : TE} (h : to σ H fun x H1 => (∃ a, x = .str a) ∧ r x [] H1 Q) : tM0 r to σ H Q := h
theorem m1 {r : V → List V → Hp → VK → Prop} {to te : TE} (h : to σ H fun x H1 => (∃ a, x = .str a) ∧ te σ H1 fun y H2 => r x [y] H2 Q) : tM1 r to te σ H Q := h
theorem fmt {te : TE} (h : te σ H fun x H1 => (∃ y : Str, x = .str y ∧ y.length ≤ sizeLine ∧ Q (.str y) H1) ∨ ∃ i : Int, x = .int i ∧ i.natAbs.log2 < 1920 ∧ Q (.str (toString i)) H1) : tFmt te σ H Q := h
theorem chainP {r' : R2} {tc : TE} {y : V} {c d : Bool} (h1 : ∀ Q' : VK, Q' (.bl d) H → tc σ H fun w' H4 => r' y w' H4 Q') (h : Q (.bl (c && d)) H) : if c = true then tc σ H (fun w' H4 => r' y w' H4 Q) else Q (.bl false) H := by
  cases c with
  | true => exact h1 Q h
  | false => exact h
theorem peN {X : Cx} {e : Expr} : PE X e (fun _ _ _ => False) := ⟨fun _ _ _ _ _ _ z => z.elim⟩
theorem ptN {X : Cx} {e : Expr} : PT X e (fun _ _ _ => False) := ⟨fun _ _ _ _ _ _ z => z.elim⟩
theorem via {sp : Sp} {vs : List V} {E : XK} (Post : V → Hp → Prop) (h1 : ∀ Q' : VK, (∀ v H', Post v H' → Q' v H') → sp vs H Q' E) (h2 : ∀ v H', Post v H' → Q v H') : sp vs H Q E := h1 Q h2
end
end Rd
/-! ## counting truths in a list -/
namespace Cnt
open PySem PySem.Spec PyProof.Rows L2
theorem bools_of : ∀ {bs : List Bool} {us : List Value}, Vals (bs.map V.bl) us → us = bs.map Value.bool
  | [], _, .nil => rfl
  | b :: bs, _, .cons r rs => by
    have e1 := bools_of rs
    have e2 : _ = Value.bool b := r
    rw [e2, e1]
    rfl
def isB (k : Bool) : Value → Bool
  | .bool b => b == k
  | _ => false
theorem count_isB (k : Bool) : ∀ bs : List Bool, (bs.map Value.bool).countP (isB k) = bs.count k
  | [] => rfl
  | b :: bs => by
    rw [List.map_cons, List.countP_cons, count_isB k bs, List.count_cons]
    rfl
section
variable {X : Cx}
def rCntB (K : PySem.W.Frag) : V → List V → Hp → VK → Prop := fun x xs H Q => ∃ (p : Addr) (bs : List Bool) (k : Bool), x = .ref p ∧ xs = [.bl k] ∧ SqL K H p (bs.map V.bl) ∧ Q (.int (bs.count k : Nat)) H
theorem mt_countB : MtR X "list.count" (rCntB X.K) := by
  intro pins s σ H x xs vv us Q Inv0 rx rxs told
  obtain ⟨p, bs, k, rfl, rfl, sq, goal⟩ := told
  cases rx
  obtain ⟨u, rfl, ru⟩ := rxs.one
  have eu : u = Value.bool k := ru
  subst eu
  obtain ⟨its, rv, ⟨⟨c0, d0, dat0, sl0⟩, n, at0, ec, ed, edat⟩, len0⟩ := Inv0.list sq
  simp only at ec edat
  subst ec edat
  have es := bools_of rv
  refine call_meets PySem.F.slot_list_count ⟨_, at0, rfl⟩ PySem.F.entry_list_count (PySem.F.args_list_count_2 _ _)
    (SeqAt.list_countAt p its.toArray n d0 sl0 (.bool k) (isB k)) ⟨at0, fun y hy => ?_, ?_⟩
  · have hm : y ∈ bs.map Value.bool := by rw [← es]; simpa using hy
    obtain ⟨b, _, rfl⟩ := List.mem_map.mp hm
    exact SeqAt.EqAt.bool_bool b k
  · have en : its.toArray.toList.countP (isB k) = bs.count k := by
      show its.countP (isB k) = _
      rw [es]
      exact count_isB k bs
    refine ⟨.int (bs.count k : Nat), H, Inv0.tok _, ⟨s.toks, ?_⟩, goal⟩
    show Value.int ((its.toArray.toList.countP (isB k) : Nat) : Int) s.toks = _
    rw [en]
end
end Cnt
/-! ## comprehensions over written sources, item by item; ways joined behind an if -/
namespace Rd
open PySem PySem.Spec PyProof.Rows L2
/-- what is left of a comprehension, item by item; st says that the source stands -/
def Rem (D : Addr) (g : TG) (tt : TT) (te : TE) (vs : List Nat) (σ : L2.St) (st Q : Hp → Prop) : List V → Hp → Prop
  | [], H => st H ∧ Q H
  | x :: r, H => st H ∧ g x (wipe σ vs) H fun σ2 H2 => wipe σ2 vs = wipe σ vs ∧ tt σ2 H2 fun b H3 => if b = true then te σ2 H3 fun y H4 => ∃ acc, H4 D = some (.lst acc) ∧ acc.length < sizeLine ∧ Rem D g tt te vs σ st Q r (upd H4 D (.lst (acc ++ [y]))) else Rem D g tt te vs σ st Q r H3
section
variable {σ : L2.St} {H : Hp} {Q : VK} {K : PySem.W.Frag} {D : Addr} {g : TG} {tt : TT} {te : TE} {vs : List Nat} {st Qd : Hp → Prop}
theorem rem_st {l : List V} (h : Rem D g tt te vs σ st Qd l H) : st H := by cases l <;> exact h.1
theorem remCons {x : V} {r : List V} (h0 : st H) (h : g x (wipe σ vs) H fun σ2 H2 => wipe σ2 vs = wipe σ vs ∧ tt σ2 H2 fun b H3 => if b = true then te σ2 H3 fun y H4 => ∃ acc, H4 D = some (.lst acc) ∧ acc.length < sizeLine ∧ Rem D g tt te vs σ st Qd r (upd H4 D (.lst (acc ++ [y]))) else Rem D g tt te vs σ st Qd r H3) : Rem D g tt te vs σ st Qd (x :: r) H := ⟨h0, h⟩
theorem remNil (h0 : st H) (h : Qd H) : Rem D g tt te vs σ st Qd [] H := ⟨h0, h⟩
theorem drop_at {l : List V} {i : Nat} {x : V} (h : l[i]? = some x) : l.drop i = x :: l.drop (i + 1) := by
  obtain ⟨hi, e⟩ := List.getElem?_eq_some_iff.mp h
  rw [List.drop_eq_getElem_cons hi, e]
/-- over a written list -/
theorem lcUnrL {Qa : Addr → Hp → Prop} {a : Addr} {xs : List V} (hs : SqL K H a xs) (h : ∀ D, H D = none → Rem D g tt te vs σ (fun H' => SqL K H' a xs) (fun H' => Qa D H') xs (upd H D (.lst []))) :
    (∃ xs, SqL K H a xs) ∧ ∀ D, H D = none → ∃ W : Nat → Nat → Hp → Prop, (∃ m, W 0 m (upd H D (.lst []))) ∧ ∀ t m H, W t m H →
      ((Itl K a).stop t H ∧ Qa D H) ∨ ((Itl K a).go t H ∧ ∃ Nx : Hp → Prop, (∀ H', Nx H' → ∃ m', m' < m ∧ W (t + 1) m' H') ∧ ∀ x H', (Itl K a).yld t H x H' → g x (wipe σ vs) H' fun σ2 H2 => wipe σ2 vs = wipe σ vs ∧ tt σ2 H2 fun b H3 =>
        if b = true then te σ2 H3 fun y H4 => ∃ acc, H4 D = some (.lst acc) ∧ acc.length < sizeLine ∧ Nx (upd H4 D (.lst (acc ++ [y]))) else Nx H3) :=
  ⟨⟨_, hs⟩, fun D hD => lc_list (xs := xs) (fun i H' => Rem D g tt te vs σ (fun H' => SqL K H' a xs) (fun H' => Qa D H') (xs.drop i) H') (h D hD) (fun _ _ _ p => rem_st p) (fun i x H' hx p => by rw [drop_at hx] at p; exact p.2) fun H' p => by
    rw [List.drop_length] at p
    exact p.2⟩
/-- over a written tuple -/
theorem lcUnrT {Qa : Addr → Hp → Prop} {a : Addr} {xs : List V} (hs : SqT K H a xs) (h : ∀ D, H D = none → Rem D g tt te vs σ (fun H' => SqT K H' a xs) (fun H' => Qa D H') xs (upd H D (.lst []))) :
    (∃ xs, SqT K H a xs) ∧ ∀ D, H D = none → ∃ W : Nat → Nat → Hp → Prop, (∃ m, W 0 m (upd H D (.lst []))) ∧ ∀ t m H, W t m H →
      ((Itt K a).stop t H ∧ Qa D H) ∨ ((Itt K a).go t H ∧ ∃ Nx : Hp → Prop, (∀ H', Nx H' → ∃ m', m' < m ∧ W (t + 1) m' H') ∧ ∀ x H', (Itt K a).yld t H x H' → g x (wipe σ vs) H' fun σ2 H2 => wipe σ2 vs = wipe σ vs ∧ tt σ2 H2 fun b H3 =>
        if b = true then te σ2 H3 fun y H4 => ∃ acc, H4 D = some (.lst acc) ∧ acc.length < sizeLine ∧ Nx (upd H4 D (.lst (acc ++ [y]))) else Nx H3) :=
  ⟨⟨_, hs⟩, fun D hD => lc_tup (xs := xs) (fun i H' => Rem D g tt te vs σ (fun H' => SqT K H' a xs) (fun H' => Qa D H') (xs.drop i) H') (h D hD) (fun _ _ _ p => rem_st p) (fun i x H' hx p => by rw [drop_at hx] at p; exact p.2) fun H' p => by
    rw [List.drop_length] at p
    exact p.2⟩
/-- the ints of a range -/
def rgV (lo : Int) : Nat → List V
  | 0 => []
  | n + 1 => .int lo :: rgV (lo + 1) n
theorem rgV_at : ∀ (n : Nat) (lo : Int) (i : Nat), i < n → (rgV lo n)[i]? = some (.int (lo + i))
  | n + 1, lo, 0, _ => by simp [rgV]
  | n + 1, lo, i + 1, h => by
    show (rgV (lo + 1) n)[i]? = _
    rw [rgV_at n (lo + 1) i (by omega)]
    congr 2
    omega
theorem rgV_len : ∀ (n : Nat) (lo : Int), (rgV lo n).length = n
  | 0, _ => rfl
  | n + 1, lo => by show (rgV (lo + 1) n).length + 1 = _; rw [rgV_len n]
theorem lcUnrR {Qa : Addr → Hp → Prop} {lo : Int} {n : Nat} (h : ∀ D, H D = none → Rem D g tt te vs σ (fun _ => True) (fun H' => Qa D H') (rgV lo n) (upd H D (.lst []))) :
    ∀ D, H D = none → ∃ W : Nat → Nat → Hp → Prop, (∃ m, W 0 m (upd H D (.lst []))) ∧ ∀ t m H, W t m H →
      ((Itr lo n).stop t H ∧ Qa D H) ∨ ((Itr lo n).go t H ∧ ∃ Nx : Hp → Prop, (∀ H', Nx H' → ∃ m', m' < m ∧ W (t + 1) m' H') ∧ ∀ x H', (Itr lo n).yld t H x H' → g x (wipe σ vs) H' fun σ2 H2 => wipe σ2 vs = wipe σ vs ∧ tt σ2 H2 fun b H3 =>
        if b = true then te σ2 H3 fun y H4 => ∃ acc, H4 D = some (.lst acc) ∧ acc.length < sizeLine ∧ Nx (upd H4 D (.lst (acc ++ [y]))) else Nx H3) :=
  fun D hD => lc_range (lo := lo) (n := n) (fun i H' => Rem D g tt te vs σ (fun _ => True) (fun H' => Qa D H') ((rgV lo n).drop i) H') (h D hD) (fun i H' hi p => by rw [drop_at (rgV_at n lo i hi)] at p; exact p.2) fun H' p => by
    rw [List.drop_of_length_le (by rw [rgV_len]; exact Nat.le_refl _)] at p
    exact p.2
theorem yes {q : Bool → Hp → Prop} (h : q true H) : tYes σ H q := h
/-- two ways of an if that meet -/
theorem ifJ {D : Ends} {c : TT} {t u : TS} (J : L2.St → Hp → Prop) (h1 : (∀ σ' H', J σ' H' → D.nx σ' H') → tIfS c t u D σ H) (h2 : ∀ σ' H', J σ' H' → D.nx σ' H') : tIfS c t u D σ H := h1 h2
/-- a heap known by facts alone, from here on -/
theorem comp {t : TS} {D : Ends} (P : Hp → Prop) (h0 : P H) (h : ∀ H', P H' → t D σ H') : t D σ H := h H h0
theorem truB {b : Bool} (e : b = true) (h : Q (.bl true) H) : Q (.bl b) H := by rw [e]; exact h
theorem cnt3 {p : Addr} {x y z k : Bool} (e : SqL K H p [.bl x, .bl y, .bl z]) (h : Q (.int (([x, y, z].count k : Nat) : Int)) H) : Cnt.rCntB K (.ref p) [.bl k] H Q := ⟨p, [x, y, z], k, rfl, rfl, e, h⟩
theorem feqF {a b c d : Int} (h1 : a = b) (h2 : c = d) : (!(decide (V.int a = V.int b) && decide (V.int c = V.int d))) = false := by
  rw [h1, h2, decide_eq_true rfl, decide_eq_true rfl]; rfl
theorem feqT {a b c d : Int} (h1 : a = b) (h2 : c = d) : (decide (V.int a = V.int b) && decide (V.int c = V.int d)) = true := by
  rw [h1, h2, decide_eq_true rfl, decide_eq_true rfl]; rfl
theorem neB {x y : Bool} (h : x = y) : (!decide (V.bl x = V.bl y)) = false := by rw [h, decide_eq_true rfl]; rfl
theorem tri (a b c d : Int) : (!decide (V.int (([decide (a < c ∨ a = c ∧ b < d), (decide (V.int a = V.int c) && decide (V.int b = V.int d)), decide (c < a ∨ c = a ∧ d < b)].count true : Nat) : Int) = V.int 1)) = false := by
  have e1 : decide (V.int a = V.int c) = decide (a = c) := by simp only [V.int.injEq]
  have e2 : decide (V.int b = V.int d) = decide (b = d) := by simp only [V.int.injEq]
  rw [e1, e2]
  rcases (by omega : a < c ∨ c < a ∨ (a = c ∧ b < d) ∨ (a = c ∧ d < b) ∨ (a = c ∧ b = d)) with h | h | ⟨h, g⟩ | ⟨h, g⟩ | ⟨h, g⟩
  · rw [decide_eq_true (show a < c ∨ a = c ∧ b < d by omega), decide_eq_false (show ¬ a = c by omega), decide_eq_false (show ¬ (c < a ∨ c = a ∧ d < b) by omega)]; rfl
  · rw [decide_eq_false (show ¬ (a < c ∨ a = c ∧ b < d) by omega), decide_eq_false (show ¬ a = c by omega), decide_eq_true (show (c < a ∨ c = a ∧ d < b) by omega)]; rfl
  · rw [decide_eq_true (show a < c ∨ a = c ∧ b < d by omega), decide_eq_false (show ¬ b = d by omega), Bool.and_false, decide_eq_false (show ¬ (c < a ∨ c = a ∧ d < b) by omega)]; rfl
  · rw [decide_eq_false (show ¬ (a < c ∨ a = c ∧ b < d) by omega), decide_eq_false (show ¬ b = d by omega), Bool.and_false, decide_eq_true (show (c < a ∨ c = a ∧ d < b) by omega)]; rfl
  · rw [decide_eq_false (show ¬ (a < c ∨ a = c ∧ b < d) by omega), decide_eq_true h, decide_eq_true g, decide_eq_false (show ¬ (c < a ∨ c = a ∧ d < b) by omega)]; rfl
theorem stepLt {a b c d t : Int} (h : 0 < t) : decide (a * t < c * t ∨ a * t = c * t ∧ b * t < d * t) = decide (a < c ∨ a = c ∧ b < d) := by
  have m1 : a * t < c * t ↔ a < c := Int.mul_lt_mul_right h
  have m2 : b * t < d * t ↔ b < d := Int.mul_lt_mul_right h
  have m3 : a * t = c * t ↔ a = c := ⟨fun e => Int.eq_of_mul_eq_mul_right (by omega) e, fun e => by rw [e]⟩
  rw [decide_eq_decide, m1, m2, m3]
theorem stepGt {a b c d t : Int} (h : 0 < t) : decide (a * (0 - t) < c * (0 - t) ∨ a * (0 - t) = c * (0 - t) ∧ b * (0 - t) < d * (0 - t)) = decide (c < a ∨ c = a ∧ d < b) := by
  have n : ∀ x : Int, x * (0 - t) = -(x * t) := fun x => by rw [Int.zero_sub, Int.mul_neg]
  have m1 : a * (0 - t) < c * (0 - t) ↔ c < a := by rw [n, n, Int.neg_lt_neg_iff]; exact Int.mul_lt_mul_right h
  have m2 : b * (0 - t) < d * (0 - t) ↔ d < b := by rw [n, n, Int.neg_lt_neg_iff]; exact Int.mul_lt_mul_right h
  have m3 : a * (0 - t) = c * (0 - t) ↔ c = a := ⟨fun e => (Int.eq_of_mul_eq_mul_right (by omega) e).symm, fun e => by rw [e]⟩
  rw [decide_eq_decide, m1, m2, m3]
end
end Rd
/-! ## schemes: words, dicts, written tuples, calls by keywords -/
namespace Rd
open PySem PySem.Spec PyProof.Rows L2
section
variable {σ : L2.St} {H : Hp} {Q : VK} {D : Ends} {K : PySem.W.Frag}
theorem mkK {C : Addr} {m : Nat} {sp : Sp} {gV : List V → List V → List V} {E : XK} {tk : TA} (h : tk σ H fun zs H2 => ([] : List V).length = 0 ∧ zs.length = m ∧ ∀ x dx, H2 x = none → H2 dx = none → dx ≠ x →
    sp (gV (.ref x :: []) zs) (upd (upd H2 dx (.own x)) x (.ins C dx [])) (fun v H3 => v = .non ∧ Q (.ref x) H3) E) : tMakeK C 0 m sp gV E tNil tk σ H Q := h
theorem dget {td ty : TE} (h : td σ H fun x H1 => ty σ H1 fun y H2 => ∃ a v, x = .ref a ∧ DGet H2 a y (some v) ∧ Q v H2) : tDGet td ty σ H Q := h
theorem dget2 {a : Addr} {kvs : List (Key × V)} {z : Str} {v : V} {R : V → Prop} (e : H a = some (.dK kvs)) (l : valV kvs (.inr z) = some v) (h : R v) : ∃ a' v, V.ref a = .ref a' ∧ DGet H a' (.str z) (some v) ∧ R v :=
  ⟨a, v, rfl, by have := DGet.k (k := Sum.inr z) e; rw [l] at this; exact this, h⟩
/-- a written tuple, whatever the heap -/
def SqTK (K : PySem.W.Frag) (a : Addr) (xs : List V) : Prop := ∀ H, SqT K H a xs
theorem SqTK.get {a : Addr} {xs : List V} (h : SqTK K a xs) : SqT K H a xs := h H
theorem inW {s : Str} {ws : List Str} (h : s ∈ ws) : inV (.str s) (ws.map V.str) = true := by
  unfold inV
  rw [List.any_eq_true]
  exact ⟨.str s, List.mem_map.mpr ⟨s, h, rfl⟩, by simp [eqV]⟩
theorem pickAny {a : Addr} {xs : List V} {d : Int} (e : SqL K H a xs) (h0 : 0 ≤ d) (h1 : d < (xs.length : Int)) (k : ∀ v, v ∈ xs → Q v H) : rIxL K (.ref a) (.int d) H Q := by
  obtain ⟨j, rfl⟩ : ∃ j : Nat, d = (j : Int) := ⟨d.toNat, by omega⟩
  have hj : j < xs.length := by omega
  exact ixL e (atI_nat (List.getElem?_eq_getElem hj)) (k _ (List.getElem_mem hj))
theorem bits {to : TE} (h : to σ H fun x H1 => ∃ i, x = .int i ∧ Q (.int (Builtin.Int.intBits i : Nat)) H1) : tBits to σ H Q := h
theorem tru {ta : TE} {q : Bool → Hp → Prop} (h : ta σ H fun x H' => ∃ k, TruV K x H' k ∧ q k H') : (fun σ H Q => ta σ H fun x H' => ∃ k, TruV K x H' k ∧ Q k H' : TT) σ H q := h
theorem truI {i : Int} : TruV K (.int i) H (i != 0) := rfl
theorem rng2 {ta : TA} {R : It → Hp → Prop} (h : ta σ H fun vs H1 => ∃ i j : Int, vs = [.int i, .int j] ∧ (-(2 ^ 62) ≤ i ∧ i < 2 ^ 62 ∧ -(2 ^ 62) ≤ j ∧ j < 2 ^ 62) ∧ R (Itr i (j - i).toNat) H1) : iRng2 ta σ H R := h
theorem notF {b : Bool} (h : b = true) : (!b) = false := by rw [h]; rfl
theorem inT {p : Addr} {x : V} {xs : List V} (e : SqL K H p xs ∨ SqT K H p xs) (f1 : flatV x = true) (f2 : xs.all flatV = true) (h : Q (.bl (inV x xs)) H) : rIn K false x (.ref p) H Q := ⟨p, xs, rfl, e, f1, f2, h⟩
theorem kt_int_int {K : PySem.W.Frag} : PySem.W.kitOne K (.type "int") (.type "int") = some true := kit_ty (by decide +kernel)
theorem kt_int_bool {K : PySem.W.Frag} : PySem.W.kitOne K (.type "int") (.type "bool") = some false := kit_ty (by decide +kernel)
theorem kt_int_str {K : PySem.W.Frag} : PySem.W.kitOne K (.type "int") (.type "str") = some false := kit_ty (by decide +kernel)
theorem kt_int_tuple {K : PySem.W.Frag} : PySem.W.kitOne K (.type "int") (.type "tuple") = some false := kit_ty (by decide +kernel)
theorem kt_int_list {K : PySem.W.Frag} : PySem.W.kitOne K (.type "int") (.type "list") = some false := kit_ty (by decide +kernel)
theorem kt_int_dict {K : PySem.W.Frag} : PySem.W.kitOne K (.type "int") (.type "dict") = some false := kit_ty (by decide +kernel)
theorem kt_bool_int {K : PySem.W.Frag} : PySem.W.kitOne K (.type "bool") (.type "int") = some true := kit_ty (by decide +kernel)
theorem kt_bool_bool {K : PySem.W.Frag} : PySem.W.kitOne K (.type "bool") (.type "bool") = some true := kit_ty (by decide +kernel)
theorem kt_bool_str {K : PySem.W.Frag} : PySem.W.kitOne K (.type "bool") (.type "str") = some false := kit_ty (by decide +kernel)
theorem kt_bool_tuple {K : PySem.W.Frag} : PySem.W.kitOne K (.type "bool") (.type "tuple") = some false := kit_ty (by decide +kernel)
theorem kt_bool_list {K : PySem.W.Frag} : PySem.W.kitOne K (.type "bool") (.type "list") = some false := kit_ty (by decide +kernel)
theorem kt_bool_dict {K : PySem.W.Frag} : PySem.W.kitOne K (.type "bool") (.type "dict") = some false := kit_ty (by decide +kernel)
theorem kt_str_int {K : PySem.W.Frag} : PySem.W.kitOne K (.type "str") (.type "int") = some false := kit_ty (by decide +kernel)
theorem kt_str_bool {K : PySem.W.Frag} : PySem.W.kitOne K (.type "str") (.type "bool") = some false := kit_ty (by decide +kernel)
theorem kt_str_str {K : PySem.W.Frag} : PySem.W.kitOne K (.type "str") (.type "str") = some true := kit_ty (by decide +kernel)
theorem kt_str_tuple {K : PySem.W.Frag} : PySem.W.kitOne K (.type "str") (.type "tuple") = some false := kit_ty (by decide +kernel)
theorem kt_str_list {K : PySem.W.Frag} : PySem.W.kitOne K (.type "str") (.type "list") = some false := kit_ty (by decide +kernel)
theorem kt_str_dict {K : PySem.W.Frag} : PySem.W.kitOne K (.type "str") (.type "dict") = some false := kit_ty (by decide +kernel)
theorem kt_NoneType_int {K : PySem.W.Frag} : PySem.W.kitOne K (.type "NoneType") (.type "int") = some false := kit_ty (by decide +kernel)
theorem kt_NoneType_bool {K : PySem.W.Frag} : PySem.W.kitOne K (.type "NoneType") (.type "bool") = some false := kit_ty (by decide +kernel)
theorem kt_NoneType_str {K : PySem.W.Frag} : PySem.W.kitOne K (.type "NoneType") (.type "str") = some false := kit_ty (by decide +kernel)
theorem kt_NoneType_tuple {K : PySem.W.Frag} : PySem.W.kitOne K (.type "NoneType") (.type "tuple") = some false := kit_ty (by decide +kernel)
theorem kt_NoneType_list {K : PySem.W.Frag} : PySem.W.kitOne K (.type "NoneType") (.type "list") = some false := kit_ty (by decide +kernel)
theorem kt_NoneType_dict {K : PySem.W.Frag} : PySem.W.kitOne K (.type "NoneType") (.type "dict") = some false := kit_ty (by decide +kernel)
theorem kt_tuple_int {K : PySem.W.Frag} : PySem.W.kitOne K (.type "tuple") (.type "int") = some false := kit_ty (by decide +kernel)
theorem kt_tuple_bool {K : PySem.W.Frag} : PySem.W.kitOne K (.type "tuple") (.type "bool") = some false := kit_ty (by decide +kernel)
theorem kt_tuple_str {K : PySem.W.Frag} : PySem.W.kitOne K (.type "tuple") (.type "str") = some false := kit_ty (by decide +kernel)
theorem kt_tuple_tuple {K : PySem.W.Frag} : PySem.W.kitOne K (.type "tuple") (.type "tuple") = some true := kit_ty (by decide +kernel)
theorem kt_tuple_list {K : PySem.W.Frag} : PySem.W.kitOne K (.type "tuple") (.type "list") = some false := kit_ty (by decide +kernel)
theorem kt_tuple_dict {K : PySem.W.Frag} : PySem.W.kitOne K (.type "tuple") (.type "dict") = some false := kit_ty (by decide +kernel)
theorem kt_list_int {K : PySem.W.Frag} : PySem.W.kitOne K (.type "list") (.type "int") = some false := kit_ty (by decide +kernel)
theorem kt_list_bool {K : PySem.W.Frag} : PySem.W.kitOne K (.type "list") (.type "bool") = some false := kit_ty (by decide +kernel)
theorem kt_list_str {K : PySem.W.Frag} : PySem.W.kitOne K (.type "list") (.type "str") = some false := kit_ty (by decide +kernel)
theorem kt_list_tuple {K : PySem.W.Frag} : PySem.W.kitOne K (.type "list") (.type "tuple") = some false := kit_ty (by decide +kernel)
theorem kt_list_list {K : PySem.W.Frag} : PySem.W.kitOne K (.type "list") (.type "list") = some true := kit_ty (by decide +kernel)
theorem kt_list_dict {K : PySem.W.Frag} : PySem.W.kitOne K (.type "list") (.type "dict") = some false := kit_ty (by decide +kernel)
theorem kt_dict_int {K : PySem.W.Frag} : PySem.W.kitOne K (.type "dict") (.type "int") = some false := kit_ty (by decide +kernel)
theorem kt_dict_bool {K : PySem.W.Frag} : PySem.W.kitOne K (.type "dict") (.type "bool") = some false := kit_ty (by decide +kernel)
theorem kt_dict_str {K : PySem.W.Frag} : PySem.W.kitOne K (.type "dict") (.type "str") = some false := kit_ty (by decide +kernel)
theorem kt_dict_tuple {K : PySem.W.Frag} : PySem.W.kitOne K (.type "dict") (.type "tuple") = some false := kit_ty (by decide +kernel)
theorem kt_dict_list {K : PySem.W.Frag} : PySem.W.kitOne K (.type "dict") (.type "list") = some false := kit_ty (by decide +kernel)
theorem kt_dict_dict {K : PySem.W.Frag} : PySem.W.kitOne K (.type "dict") (.type "dict") = some true := kit_ty (by decide +kernel)
theorem inW_iff {s : Str} {ws : List Str} : inV (.str s) (ws.map V.str) = decide (s ∈ ws) := by
  by_cases h : s ∈ ws
  · rw [inW h, decide_eq_true h]
  · rw [decide_eq_false h, Bool.eq_false_iff]
    intro e
    unfold inV at e
    rw [List.any_eq_true] at e
    obtain ⟨x, hx, e⟩ := e
    obtain ⟨t, ht, rfl⟩ := List.mem_map.mp hx
    have : t = s := by simpa [eqV] using e
    exact h (this ▸ ht)
theorem flatW (ws : List Str) : (ws.map V.str).all flatV = true := by
  rw [List.all_eq_true]
  intro x hx
  obtain ⟨t, _, rfl⟩ := List.mem_map.mp hx
  rfl
/-- a loop over a tuple that is known whole, turn by turn -/
def unrT (K : PySem.W.Frag) (a : Addr) (all : List V) (g : TG) (tb : TS) (D : Ends) : List V → L2.St → Hp → Prop
  | [], σ, H => D.nx σ H
  | x :: xs, σ, H => g x σ H fun σ2 H2 => tb { D with nx := fun σ' H' => SqT K H' a all ∧ unrT K a all g tb D xs σ' H', ct := fun σ' H' => SqT K H' a all ∧ unrT K a all g tb D xs σ' H', bk := D.nx } σ2 H2
theorem unrollT {a : Addr} {all : List V} {g : TG} {tb : TS} (h0 : SqT K H a all) (h : unrT K a all g tb D all σ H) :
    (∃ xs, SqT K H a xs) ∧ ∃ W : Nat → Nat → L2.St → Hp → Prop, (∃ m, W 0 m σ H) ∧ ∀ i m σ H, W i m σ H →
      ((Itt K a).stop i H ∧ D.nx σ H) ∨ ((Itt K a).go i H ∧ ∃ N : L2.St → Hp → Prop, (∀ σ' H', N σ' H' → ∃ m', m' < m ∧ W (i + 1) m' σ' H') ∧ ∀ x H', (Itt K a).yld i H x H' → g x σ H' fun σ2 H2 => tb { D with nx := N, ct := N, bk := D.nx } σ2 H2) := by
  refine ⟨⟨_, h0⟩, for_tup (xs := all) (fun i σ H => SqT K H a all ∧ unrT K a all g tb D (all.drop i) σ H) ⟨h0, h⟩ (fun i σ H _ p => p.1) (fun i x σ H hx p => ?_) (fun σ H p => ?_)⟩
  · have q := p.2
    rw [drop_at hx] at q
    exact q
  · have q := p.2
    rw [List.drop_length] at q
    exact q
theorem unrTCons {a : Addr} {all : List V} {g : TG} {tb : TS} {x : V} {xs : List V}
    (h : g x σ H fun σ2 H2 => tb { D with nx := fun σ' H' => SqT K H' a all ∧ unrT K a all g tb D xs σ' H', ct := fun σ' H' => SqT K H' a all ∧ unrT K a all g tb D xs σ' H', bk := D.nx } σ2 H2) : unrT K a all g tb D (x :: xs) σ H := h
theorem unrTNil {a : Addr} {all : List V} {g : TG} {tb : TS} (h : D.nx σ H) : unrT K a all g tb D [] σ H := h
/-- five written texts as keys -/
theorem disp5 {t1 t2 t3 t4 t5 : TE} {v1 v2 v3 v4 v5 : V} {k1 k2 k3 k4 k5 : Str} (h1 : ∀ H (R : VK), R v1 H → t1 σ H R) (h2 : ∀ H (R : VK), R v2 H → t2 σ H R) (h3 : ∀ H (R : VK), R v3 H → t3 σ H R) (h4 : ∀ H (R : VK), R v4 H → t4 σ H R) (h5 : ∀ H (R : VK), R v5 H → t5 σ H R)
    (h : ∀ p, H p = none → Q (.ref p) (upd H p (.dK (mergeK [] [(.inr k1, v1), (.inr k2, v2), (.inr k3, v3), (.inr k4, v4), (.inr k5, v5)])))) : tDisp [(tC (.str k1), t1), (tC (.str k2), t2), (tC (.str k3), t3), (tC (.str k4), t4), (tC (.str k5), t5)] σ H Q := by
  intro p np
  refine h1 _ _ (h2 _ _ (h3 _ _ (h4 _ _ (h5 _ _ ?_))))
  refine ⟨upd_same, [(.inr k1, v1), (.inr k2, v2), (.inr k3, v3), (.inr k4, v4), (.inr k5, v5)], rfl, Nat.le_of_ble_eq_true rfl, ?_⟩
  rw [upd_upd]
  exact h p np
theorem ixTK {X : Cx} {K : PySem.W.Frag} (e : X.K = K) : IxR X (rIxT K) := e ▸ ix_tup
theorem ixLK {X : Cx} {K : PySem.W.Frag} (e : X.K = K) : IxR X (rIxL K) := e ▸ ix_list
theorem tp0 {R : List (V × V) → Hp → Prop} (h : R [] H) : tPairs [] σ H R := h
theorem tp1 {tk tv : TE} {r : List (TE × TE)} {R : List (V × V) → Hp → Prop} (h : tk σ H fun x H1 => tv σ H1 fun y H2 => tPairs r σ H2 fun ps H3 => R ((x, y) :: ps) H3) : tPairs ((tk, tv) :: r) σ H R := h
theorem callS {sp : Sp} {E : L2.St → XK} {t : TA} (h : t σ H fun vs H1 => sp vs H1 Q (E σ)) : tCallS sp E t σ H Q := h
end
end Rd
/-! ## a caught error handed to a def: it stays pinned while the def runs -/
namespace Er
open PySem PySem.Spec PyProof.Rows L2 L2H
/-- a def that is called while an exception is handled, p that exception's object (its promise may speak of it); it lets nothing out -/
structure FnE (P : Program) (w : World) (K : PySem.W.Frag) (mg : Str → Option Value) (base : Heap) (k : Nat) (f : Addr) (fd : FuncData) (ps : List Str) (sp : Addr × Obj → Sp) : Prop where
  len : ∀ p vs H Q E, sp p vs H Q E → vs.length = ps.length
  run : ∀ (A : Around) (outer : List Env) (s : Shared) (H : Hp) (args : Args) (us : List Value) (vs : List V) (Q : VK) (p : Addr × Obj), RoomH k A → PinOk outer H s p → Env0 P w K mg base A outer s H → BindsTo s fd args (ps.zip us) → Vals vs us → sp p vs H Q E0 →
    codeAny (model P w) A (.call (.ref f) args) (CR CX0 outer P w H s Q E0) s
theorem okE {P : Program} {w : World} {K : PySem.W.Frag} {mg : Str → Option Value} {base : Heap} {x qual : Str} {st : Stmt} {f : Addr} {fd : FuncData} {N ps : List Str} {k : Nat} {sp : Addr × Obj → Sp} (F : Fun K x qual st f fd) (S : FnScope N ps (defScope st))
    (len : ∀ p vs H Q E, sp p vs H Q E → vs.length = ps.length)
    (body : ∀ (cdv : Value) (A : Around) (outer : List Env) (s : Shared) (H : Hp) (vs : List V) (Q : VK) (p : Addr × Obj), RoomH k (A.deeper (envOfC qual (defScope st) s.heap.objs.size f cdv)) → sp p vs H Q E0 →
      ∃ t, PSs (cxH CX0 P w K mg base N qual (defScope st) f cdv A outer s H E0 p) (defBody st) t ∧ t { nx := fun _ H' => Q .non H', rt := Q } (L2.start N vs) H) : FnE P w K mg base (k + 1) f fd ps sp := by
  obtain ⟨oc, od, kV, doc, pm, an, cdv, ct, osl, rfl, lk, hcd⟩ := F.ex
  constructor
  · exact len
  intro A outer s H args us vs Q p hr pin e0 hb r hsp
  have old : ∀ b o, base.get? b = some o → s.heap.get? b = some o := fun b o e => (e0.bs b o e).1
  have KX : K.In s.heap := e0.mod.kin.keeps old
  have lim : s.heap.NoLimit := e0.mod.nolimit.keeps old
  have kinds : ∀ y ∈ ps.zip us, (defScope st).names.lookup y.1 = some .local ∨ ((defScope st).names.lookup y.1 = some .cell ∧ ((cellsFrom (s.heap.objs.size + 1) (defScope st).names []).lookup y.1).isSome = true) := by
    rintro ⟨n, v⟩ hy
    rcases S.par n (List.of_mem_zip hy).1 with q | q
    · exact .inl q
    · exact .inr ⟨q, PySem.W.cellsFrom_some _ _ _ (.inl q)⟩
  apply codeAny_call_function hr.depth (KX _ _ lk) rfl S.co S.gen rfl (PySem.W.codeRec_of KX hcd) (hb _ _ _ _ _)
  apply wpAny_newFunctionEnv_cells S.kind kinds
  rintro env rfl s1 z
  obtain ⟨t, ht, hq⟩ := body cdv A outer s H vs Q p (hr.deeper _) hsp
  have I := inv_startH (CX := CX0) (E := E0) (P := P) (w := w) (mg := mg) (f := f) (cd := cdv) (qual := qual) S pin e0 (len _ _ _ _ _ hsp) r z
  refine ⟨lim.keeps z.toInCall.keep, codeAny_func (wpAny_mono (ht.run [] s1 (L2.start N vs) H _ I hq) ?_ fun e s' hs => hs)⟩
  rintro (_ | _ | _ | u) s' hs
  · obtain ⟨σ', H', J, q⟩ := hs
    exact ⟨.non, H', J.os, J.bare, J.base, J.hok, rfl, q⟩
  · obtain ⟨_, _, _, q⟩ := hs
    exact q.elim
  · obtain ⟨_, _, _, q⟩ := hs
    exact q.elim
  · obtain ⟨v, σ', H', J, rv, q⟩ := hs
    exact ⟨v, H', J.os, J.bare, J.base, J.hok, rv, q⟩
theorem roomS {k : Nat} {A : Around} {h : Option Value} (r : Room k A) : RoomH k (A.mark h) := ⟨r.dp, r.un⟩
/-- f(e), e the exception that the suite holds -/
def tCallE (sp : Addr × Obj → Sp) (a : Addr) (cls : Value) (d : Option Addr) (i : Nat) : TE := fun σ H Q => σ[i]? = some (some (.ref a)) ∧ ∀ oe, Zc cls d oe → (∃ vs, oe.data = .fields vs) → sp (a, oe) [.ref a] H Q E0
theorem pe_callE {P : Program} {w : World} {K : PySem.W.Frag} {mg : Str → Option Value} {base : Heap} {X : Cx} {k i : Nat} {f a : Addr} {fd : FuncData} {ps : List Str} {sp : Addr × Obj → Sp} {x n : Str} {p1 p2 pos : Pos} {oe : Obj} {cls : Value} {d : Option Addr} (e1 : X.prog = P) (e2 : X.w = w) (e3 : X.K = K) (e4 : X.mg = mg) (e5 : X.base = base)
    (F : FnE P w K mg base k f fd ps sp) (hz : Zc cls d oe) (hf : ∃ vs, oe.data = .fields vs) (hp : (a, oe) ∈ X.pn) (hr : RoomH k X.A) (hg : Gl X x) (hm : mg x = some (.ref f)) (hk : PySem.W.keepIn K (.ref f) = true) (hb : Binds K fd ps [])
    (hN : X.N[i]? = some n) (hv : Vis X.env.scope n) (h1 : (n == ("__debug__" : Str)) = false := by decide) (h2 : (n == ("__classdict__" : Str)) = false := by decide) (hdb : (x == ("__debug__" : Str)) = false := by decide)
    (he : starEach [Expr.Name n p2] X.env = (false, eval (Expr.Name n p2) X.env) :: starEach [] X.env := by rfl) (hpl : (backTo pos (starEach [] X.env)).any (·.1) = false := by rfl) : PE X (.Call (.Name x p1) [.Name n p2] [] pos) (tCallE sp a cls d i) := by
  subst e1 e2 e3 e4 e5
  constructor
  rintro pins s σ H Q I ⟨at_, h⟩
  have A1 : PA X [Expr.Name n p2] (tCons (tVar i) tNil) := pa_cons (pe_var hN hv h1 h2) pa_nil
  apply wpAny_Call_Name_kw
  refine ld_glob I hg hm ?_ hdb
  refine PySem.W.callWith_K (h₀ := X.base) I.ok.mod.kin hk (thn (A1.run pos pins s σ H (fun vs H1 => vs = [.ref a] ∧ H1 = H) I ⟨_, at_, rfl, rfl⟩) ?_) he hpl
  rintro us s1 ⟨vs, H1, I1, r, rfl, rfl⟩
  refine ⟨I1.kIn, ?_⟩
  have sp1 := h oe hz hf
  have hl : us.length = ps.length := by rw [← r.length]; exact F.len _ _ _ _ _ sp1
  have b := hb s1 us I1.kIn (by rw [List.append_nil]; exact hl)
  rw [List.append_nil] at b
  obtain ⟨g1, g2, g3, g4, g5⟩ := I1.pin (a, oe) (List.mem_append_left _ hp)
  have pin : PinOk X.stack H1 s1 (a, oe) := ⟨g1, g2, fun z => (List.mem_cons.mp (I1.stkSub a z)).elim g3 g4, g5⟩
  refine wpAny_call (codeAny_mono (F.run X.A X.stack s1 H1 ⟨us, []⟩ us _ Q (a, oe) hr pin I1.env0 b r sp1) ?_)
  rintro (e | (_ | _ | _ | u)) s2 hq
  · exact hq.elim
  · exact hq.elim
  · exact hq.elim
  · exact hq.elim
  · exact I1.after hq
/-- isinstance(e, c), (c1, c2, ..) of the error that is pinned -/
def rIsP (K : PySem.W.Frag) (p : Addr × Obj) : List V → Hp → VK → Prop := fun xs H Q => ∃ (D : Addr) (c : V) (u : Value) (b : Bool), xs = [.ref p.1, c] ∧ Zc (.ref D) none p.2 ∧ (∃ vs, p.2.data = .fields vs) ∧ ExcC K D ∧ ClsV c u ∧ PySem.W.kitOne K (.ref D) u = some b ∧ Q (.bl b) H
def rIsPT (K : PySem.W.Frag) (p : Addr × Obj) : List V → Hp → VK → Prop := fun xs H Q => ∃ (D tp : Addr) (cs : List V) (us : List Value) (b : Bool), xs = [.ref p.1, .ref tp] ∧ H tp = some (.tup cs) ∧ Paired ClsV cs us ∧ Zc (.ref D) none p.2 ∧ (∃ vs, p.2.data = .fields vs) ∧ ExcC K D ∧ PySem.W.kitAny K (.ref D) us = some b ∧ Q (.bl b) H
theorem inst {X : Cx} {pins : List (Addr × Obj)} {s : Shared} {σ : L2.St} {H : Hp} {p : Addr × Obj} {D : Addr} (I : Inv X pins σ H s) (hp : p ∈ X.pn) (hz : Zc (.ref D) none p.2) (hf : ∃ vs, p.2.data = .fields vs) : PySem.W.InstAt s.heap p.1 p.2 D none := by
  obtain ⟨a, oc, od, dt, sl⟩ := p
  obtain ⟨g, _⟩ := I.pin _ (List.mem_append_left _ hp)
  obtain ⟨vs, hv⟩ := hf
  obtain ⟨h1, h2⟩ := hz
  dsimp only at h1 h2 hv
  subst h1 h2 hv
  exact ⟨g, rfl, rfl, trivial⟩
theorem call_isP {X : Cx} {K : PySem.W.Frag} {p : Addr × Obj} (eK : X.K = K) (hp : p ∈ X.pn) : CallR X (.builtin "isinstance") (rIsP K p) := by
  subst eK
  rintro pins s σ H xs us Q I r ⟨D, c, u, b, rfl, hz, hf, C, kc, e, q⟩
  obtain ⟨u1, u2, rfl, r1, r2⟩ := vals2 r
  cases (show u1 = Value.ref p.1 from r1)
  have e2 := kc.eq r2
  subst e2
  exact PySem.W.kia_one (PySem.W.handS_kitx_exc C.hg C.hk C.hs C.hd C.ha C.hn C.ht C.hm) I.kIn (inst I hp hz hf) e (fun z => nomatch z) fun tk => ⟨.bl b, H, I.tok tk, rfl, q⟩
theorem call_isPT {X : Cx} {K : PySem.W.Frag} {p : Addr × Obj} (eK : X.K = K) (hp : p ∈ X.pn) : CallR X (.builtin "isinstance") (rIsPT K p) := by
  subst eK
  rintro pins s σ H xs us Q I r ⟨D, tp, cs, ws, b, rfl, hT, kc, hz, hf, C, e, q⟩
  obtain ⟨u1, u2, rfl, r1, r2⟩ := vals2 r
  cases (show u1 = Value.ref p.1 from r1)
  cases (show u2 = Value.ref tp from r2)
  obtain ⟨_, its, rv, o, h1, h2, n, h3⟩ := (show ObjOk X.prog X.w H s.heap tp (.tup cs) from I.hok tp _ hT)
  have e3 := ClsV.all kc rv
  subst e3
  obtain ⟨oc, od, dt, sl⟩ := o
  simp only at h2 h3
  subst h2 h3
  exact PySem.W.kia_tup (PySem.W.handS_kitx_exc C.hg C.hk C.hs C.hd C.ha C.hn C.ht C.hm) I.kIn (inst I hp hz hf) h1 e (fun z => nomatch z) fun tk => ⟨.bl b, H, I.tok tk, rfl, q⟩
theorem any2 {K : PySem.W.Frag} {t u1 u2 : Value} (h1 : PySem.W.kitOne K t u1 = some false) (h2 : PySem.W.kitOne K t u2 = some false) : PySem.W.kitAny K t [u1, u2] = some false := by
  simp only [PySem.W.kitAny, h1, h2]
end Er
namespace Rd
open PySem PySem.Spec PyProof.Rows L2
theorem callE {sp : Addr × Obj → Sp} {a : Addr} {cls : Value} {d : Option Addr} {i : Nat} {σ : L2.St} {H : Hp} {Q : VK} (h1 : σ[i]? = some (some (.ref a))) (h : ∀ oe, Zc cls d oe → (∃ vs, oe.data = .fields vs) → sp (a, oe) [.ref a] H Q E0) : Er.tCallE sp a cls d i σ H Q := ⟨h1, h⟩
end Rd
/-! ## isinstance of a caught error with a tuple of classes -/
namespace Er
open PySem PySem.Spec PyProof.Rows L2 L2H
def rIsET (K : PySem.W.Frag) (cls : Value) (d : Option Addr) (a : Addr) : List V → Hp → VK → Prop := fun xs H Q => ∃ (D tp : Addr) (cs : List V) (us : List Value) (b : Bool), cls = .ref D ∧ d = none ∧ ExcC K D ∧ xs = [.ref a, .ref tp] ∧ H tp = some (.tup cs) ∧ Paired ClsV cs us ∧ PySem.W.kitAny K (.ref D) us = some b ∧ Q (.bl b) H
theorem call_isET2 {X : Cx} {K : PySem.W.Frag} (eK : X.K = K) {a : Addr} {cls : Value} {d : Option Addr} {oe : Obj} {pn : List (Addr × Obj)} (hz : Zc cls d oe) (hf : ∃ vs, oe.data = .fields vs) : CallR (X.suite a ((a, oe) :: pn)) (.builtin "isinstance") (rIsET K cls d a) := by
  subst eK
  rintro pins s σ H xs us Q I r ⟨D, tp, cs, ws, b, rfl, rfl, C, rfl, hT, kc, e, q⟩
  exact call_isPT (X := X.suite a ((a, oe) :: pn)) (p := (a, oe)) rfl List.mem_cons_self pins s σ H _ us Q I r ⟨D, tp, cs, ws, b, rfl, hT, kc, hz, hf, C, e, q⟩
theorem any7 {K : PySem.W.Frag} {t u1 u2 u3 u4 u5 u6 u7 : Value} (h1 : PySem.W.kitOne K t u1 = some false) (h2 : PySem.W.kitOne K t u2 = some false) (h3 : PySem.W.kitOne K t u3 = some false) (h4 : PySem.W.kitOne K t u4 = some false) (h5 : PySem.W.kitOne K t u5 = some false) (h6 : PySem.W.kitOne K t u6 = some false) (h7 : PySem.W.kitOne K t u7 = some false) : PySem.W.kitAny K t [u1, u2, u3, u4, u5, u6, u7] = some false := by
  simp only [PySem.W.kitAny, h1, h2, h3, h4, h5, h6, h7]
theorem any8 {K : PySem.W.Frag} {t u1 u2 u3 u4 u5 u6 u7 u8 : Value} (h1 : PySem.W.kitOne K t u1 = some false) (h2 : PySem.W.kitOne K t u2 = some false) (h3 : PySem.W.kitOne K t u3 = some false) (h4 : PySem.W.kitOne K t u4 = some false) (h5 : PySem.W.kitOne K t u5 = some false) (h6 : PySem.W.kitOne K t u6 = some false) (h7 : PySem.W.kitOne K t u7 = some false) (h8 : PySem.W.kitOne K t u8 = some false) : PySem.W.kitAny K t [u1, u2, u3, u4, u5, u6, u7, u8] = some false := by
  simp only [PySem.W.kitAny, h1, h2, h3, h4, h5, h6, h7, h8]
end Er
/-! ## slices, lists again and again, lists of truths -/
namespace Rd
open PySem PySem.Spec PyProof.Rows L2
section
variable {σ : L2.St} {H : Hp} {Q : VK} {K : PySem.W.Frag}
theorem sl {r : V → Option Int → Option Int → Hp → VK → Prop} {te : TE} {tl th : TO} (h : te σ H fun x H1 => tl σ H1 fun l H2 => th σ H2 fun u H3 => r x l u H3 Q) : tSl r te tl th σ H Q := h
theorem noPart {R : Option Int → Hp → Prop} (h : R none H) : tNoPart σ H R := h
theorem part {te : TE} {R : Option Int → Hp → Prop} (h : te σ H fun x H1 => ∃ i, x = .int i ∧ R (some i) H1) : tPart te σ H R := h
theorem cut_take {xs : List V} {k : Nat} (h : k ≤ xs.length) : cutV xs none (some (k : Int)) = xs.take k := by
  unfold cutV
  have e0 : HT.sIx xs.length 0 none = 0 := rfl
  have e1 : HT.sIx xs.length xs.length (some (k : Int)) = k := by
    unfold HT.sIx
    have z : ¬ ((k : Int) < 0) := by omega
    simp [z]
    omega
  rw [e0, e1, List.drop_zero, Nat.sub_zero]
theorem dp_bools : ∀ (H : Hp) (bs : List Bool), DpAll K H (bs.map V.bl) (bs.map PyData.bool)
  | _, [] => .nil
  | H, _ :: r => .cons (.bl _) (dp_bools H r)
theorem dp_listB {H : Hp} {a : Addr} {bs : List Bool} (h : SqL K H a (bs.map V.bl)) : Dp K H (.ref a) (.list (bs.map PyData.bool)) := .lst h (dp_bools H bs)
theorem can_bools : ∀ bs : List Bool, PyData.canLayAll0 (bs.map PyData.bool) = true
  | [] => by simp [PyData.canLayAll0]
  | _ :: r => by simp only [List.map_cons, PyData.canLayAll0, PyData.canLay0, can_bools r, Bool.and_self]
theorem dep_bools : ∀ bs : List Bool, PyData.depthAll (bs.map PyData.bool) = 0
  | [] => by simp [PyData.depthAll]
  | _ :: r => by simp only [List.map_cons, PyData.depthAll, PyData.depth, dep_bools r, Nat.max_self]
theorem shaped_listB (bs : List Bool) : SeqAt.shaped (.list (bs.map PyData.bool)) = true := by
  simp only [SeqAt.shaped, PyData.canLay0, can_bools, PyData.depth, dep_bools]
  decide
theorem eqvAll_bools : ∀ as bs : List Bool, PyData.eqvAll (as.map PyData.bool) (bs.map PyData.bool) = decide (as = bs)
  | [], [] => by simp [PyData.eqvAll]
  | [], _ :: _ => by simp [PyData.eqvAll]
  | _ :: _, [] => by simp [PyData.eqvAll]
  | x :: r, y :: q => by
    simp only [List.map_cons, PyData.eqvAll, PyData.eqv, eqvAll_bools r q]
    cases x <;> cases y <;> simp
theorem eqv_listB (as bs : List Bool) : PyData.eqv (.list (as.map PyData.bool)) (.list (bs.map PyData.bool)) = decide (as = bs) := by
  simp only [PyData.eqv, eqvAll_bools]
/-- the parts of a set: a list, two ints, a list -/
def partsD (e r : List Int) (s p : Int) : PyData := .tuple [.list (e.map PyData.int), .int s, .int p, .list (r.map PyData.int)]
theorem dp_parts {H : Hp} {q a b : Addr} {e r : List Int} {s p : Int} (h : SqT K H q [.ref a, .int s, .int p, .ref b]) (ha : SqL K H a (e.map V.int)) (hb : SqL K H b (r.map V.int)) : Dp K H (.ref q) (partsD e r s p) :=
  .tup h (.cons (dp_listI ha) (.cons (.int _) (.cons (.int _) (.cons (dp_listI hb) .nil))))
theorem shaped_parts (e r : List Int) (s p : Int) : SeqAt.shaped (partsD e r s p) = true := by
  simp only [partsD, SeqAt.shaped, PyData.canLay0, PyData.canLayAll0, can_ints, PyData.depth, PyData.depthAll, dep_ints]
  decide
theorem eqv_parts (e r e' r' : List Int) (s p s' p' : Int) : PyData.eqv (partsD e r s p) (partsD e' r' s' p') = decide (e = e' ∧ s = s' ∧ p = p' ∧ r = r') := by
  simp only [partsD, PyData.eqv, PyData.eqvAll, eqvAll_ints, Bool.and_true]
  rw [Bool.eq_iff_iff]
  simp
end
/-! what a while's test asks grows with what is wished -/
def ME (t : TE) : Prop := ∀ (σ : L2.St) (H : Hp) (Q Q' : VK), (∀ v H1, Q v H1 → Q' v H1) → t σ H Q → t σ H Q'
def MT (c : TT) : Prop := ∀ (σ : L2.St) (H : Hp) (R R' : Bool → Hp → Prop), (∀ b H1, R b H1 → R' b H1) → c σ H R → c σ H R'
def MR (f : R2) : Prop := ∀ (x y : V) (H : Hp) (Q Q' : VK), (∀ v H1, Q v H1 → Q' v H1) → f x y H Q → f x y H Q'
def MA (t : TA) : Prop := ∀ (σ : L2.St) (H : Hp) (Q Q' : List V → Hp → Prop), (∀ v H1, Q v H1 → Q' v H1) → t σ H Q → t σ H Q'
theorem mVar {i : Nat} : ME (tVar i) := fun _ _ _ _ h ⟨v, e, q⟩ => ⟨v, e, h _ _ q⟩
theorem mC {v : V} : ME (tC v) := fun _ _ _ _ h q => h _ _ q
theorem mOp {r : R2} {a b : TE} (f : MR r) (ha : ME a) (hb : ME b) : ME (tOp r a b) := fun σ H _ _ h z => ha σ H _ _ (fun x H1 z1 => hb σ H1 _ _ (fun y H2 z2 => f x y H2 _ _ h z2) z1) z
theorem mI0 {g : Int → Int → V} : MR (rI0 g) := fun _ _ _ _ _ h ⟨i, j, e, e', q⟩ => ⟨i, j, e, e', h _ _ q⟩
theorem mI {C : Int → Int → Prop} {g : Int → Int → V} : MR (rI C g) := fun _ _ _ _ _ h ⟨i, j, e, e', c, q⟩ => ⟨i, j, e, e', c, h _ _ q⟩
theorem mIxL {K : PySem.W.Frag} : MR (rIxL K) := fun _ _ _ _ _ h ⟨p, xs, i, v, e, e', s, l, q⟩ => ⟨p, xs, i, v, e, e', s, l, h _ _ q⟩
theorem mEq : MR rEq := fun _ _ _ _ _ h ⟨e, q⟩ => ⟨e, h _ _ q⟩
theorem mNil : MA tNil := fun _ _ _ _ h q => h _ _ q
theorem mCons {a : TE} {t : TA} (ha : ME a) (ht : MA t) : MA (tCons a t) := fun σ H _ _ h z => ha σ H _ _ (fun x H1 z1 => ht σ H1 _ _ (fun vs H2 z2 => h _ _ z2) z1) z
theorem mLen {K : PySem.W.Frag} {t : TA} (ht : MA t) : ME (tCB (fun xs H Q => ∃ p ys, xs = [V.ref p] ∧ (SqL K H p ys ∨ SqT K H p ys) ∧ Q (V.int ys.length) H) t) := fun σ H _ _ h z => ht σ H _ _ (fun vs H1 ⟨p, ys, e, s, q⟩ => ⟨p, ys, e, s, h _ _ q⟩) z
theorem mTest {t : TE} (ht : ME t) : MT (tTest t) := fun σ H _ _ h z => ht σ H _ _ (fun x H1 ⟨k, e, q⟩ => ⟨k, e, h _ _ q⟩) z
theorem mAnd {t u : TT} (ht : MT t) (hu : MT u) : MT (tAnd t u) := fun σ H _ _ h z => ht σ H _ _ (fun b H1 z1 => by
  by_cases hb : b = true
  · rw [if_pos hb] at z1 ⊢
    exact hu σ H1 _ _ h z1
  · rw [if_neg hb] at z1 ⊢
    exact h _ _ z1) z
/-- a field's reading within a comprehension -/
theorem pe_fldK {X : Cx} {K : PySem.W.Frag} {e : PySem.Expr} {f : PySem.Str} {pos : PySem.Pos} {ta : TE} (ek : X.K = K) (h : PE X e ta) (hb : PySem.attributeBase e f X.env (PySem.eval e X.env) = PySem.eval e X.env) : PE X (e.Attribute f pos) (tFld K ta f) := ek ▸ pe_fld h hb
theorem flat_intsL (ns : List Int) : (ns.map V.int).all flatV = true := by
  rw [List.all_eq_true]
  intro v hv
  obtain ⟨n, _, rfl⟩ := List.mem_map.mp hv
  rfl
theorem inV_intsL (i : Int) (ns : List Int) : inV (.int i) (ns.map V.int) = decide (i ∈ ns) := by
  unfold inV
  rw [List.any_map]
  induction ns with
  | nil => rfl
  | cons n ns ih =>
    rw [List.any_cons, ih]
    show (eqV (.int n) (.int i) || _) = _
    have e : eqV (.int n) (.int i) = decide (n = i) := by first | (simp [eqV]; done) | (simp [eqV]; rfl)
    rw [e]
    by_cases h : n = i
    · subst h; simp
    · have h' : ¬ i = n := fun z => h z.symm
      simp [h, h', List.mem_cons]
theorem mapAppL {ns : List Int} {v : Int} : ns.map V.int ++ [V.int v] = (ns ++ [v]).map V.int := by simp
theorem op_inK {X : Cx} {K : PySem.W.Frag} (e : X.K = K) : OpR X (PySem.compareOp .In) (rIn K false) := e ▸ op_in_seq
end Rd
/-! calls of an instance without arguments -/
namespace Own
open PySem PySem.Spec PyProof.Rows L2
theorem pe_callI0 {X : Cx} {CX : CXT} {k : Nat} {g C : Addr} {sp : Sp} {E : XK} {fe : Expr} {tf : TE} {pos : Pos} (hf : PE X fe tf) (c : StX.CallO X.K C g) (F : FnR X.prog X.w X.K X.mg X.base CX k g sp) (hr : Room k X.A) (hx : Passes CX X E)
    (ht : eval (.Call fe [] [] pos) X.env = (do callWith pos (← eval fe X.env) [] (backTo pos (starEach [] X.env)) (backToKw pos (keywordEach [] X.env))) := by rfl) : PE X (.Call fe [] [] pos) (tCallI C sp E tf tNil) := by
  refine ⟨fun pins s σ H Q I h => Call_ (thn (hf.run pins s σ H _ I h) fun u s1 z => ?_) ht⟩
  obtain ⟨y, H1, I1, ry, a, rfl, hi, q2⟩ := z
  cases ry
  refine StX.callO_of (args := backTo pos (starEach [] X.env)) rfl ?_
  obtain ⟨od, J⟩ : ∃ od, PySem.W.InstAt s1.heap a (PySem.W.instObj C hi.choose) C od := inst I1 hi.choose_spec.choose_spec
  refine wpAny_pure ?_
  exact ⟨⟨C, _, od, J, rfl⟩, StX.run_callO c F hr hx I1 (.inr hi) .nil q2⟩
end Own
namespace Own
open PySem PySem.Spec PyProof.Rows L2
/-- o[i] by the own __getitem__ -/
theorem pe_item {X : Cx} {CX : CXT} {k : Nat} {f C : Addr} {fd : FuncData} {ps : List Str} {sp : Sp} {E : XK} {a b : Expr} {ta tb : TE} {pos : Pos} (F : FnOk X.prog X.w X.K X.mg X.base CX k f fd ps sp) (hr : Room (k + 1) X.A) (B : Sp1 X.K C "__getitem__" f) (hfn : PySem.W.fnIn X.K f = true)
    (hb : Binds X.K fd ps []) (hx : Passes CX X E) (ha : PE X a ta) (hbb : PE X b tb)
    (hsl : ∀ o i, subscripted b true o i = runValue (.builtin "lifetime.subscript" ⟨[o, i], []⟩) := by intro _ _; with_unfolding_all rfl) :
    PE X (.Subscript a b pos) (tOp (fun x y H Q => ∃ a dx fs, x = .ref a ∧ H a = some (.ins C dx fs) ∧ sp [.ref a, y] H Q E) ta tb) := by
  refine ⟨fun pins s σ H Q I h => Subscript_ (binT ha hbb I h fun v u s2 x y H2 I2 rx ry q => ?_)⟩
  obtain ⟨a, dx, fs, rfl, ha', q⟩ := q
  cases rx
  obtain ⟨od, J⟩ := inst I2 ha'
  obtain ⟨m, hF⟩ := I2.fr
  exact PySem.W.sub_K hF I2.ok.mod.kin J B.at_ hfn B.fn (runIn (us := [.ref a, u]) (vs := [.ref a, y]) F hr hb hx I2 (.cons rfl (.cons ry .nil)) q) (hsl _ _)
end Own
/-! making an object in the body of a try, where __init__ may err: the wish of the errors looks at the slots -/
namespace TrM
open PySem PySem.Spec PyProof.Rows L2
section
variable {X : Cx} {CX : CXT} {k n : Nat} {f C : Addr} {fd : FuncData} {ps ks : List Str} {sp : Sp} {E : L2.St → XK} {x : Str} {p pos : Pos} {e : PySem.Expr} {es : List PySem.Expr} {kws : List Keyword} {t tk : TA} {g : List Value → List Value → List Value} {gV : List V → List V → List V}
/-- a call of the class: what its __init__ gives or lets out at these slots -/
theorem made {pins : List (Addr × Obj)} {σ : L2.St} {H : Hp} {s : Shared} {Q : VK} {us full : List Value} {kw : List (Str × Value)} {all : Addr → List V} (M : Mk X.K C f) (F : FnOk X.prog X.w X.K X.mg X.base CX k f fd ps sp) (hr : Room (k + 1) X.A) (hx : PassesAt CX X σ (E σ)) (I : Inv X pins σ H s)
    (hb : ∀ z : Shared, X.K.In z.heap → BindsTo z fd ⟨.ref (s.heap.objs.size + 1) :: us, kw⟩ (ps.zip full)) (r : Vals (all (s.heap.objs.size + 1)) full)
    (h : ∀ y dy, H y = none → H dy = none → dy ≠ y → sp (all y) (upd (upd H dy (.own y)) y (.ins C dy [])) (fun v H2 => v = .non ∧ Q (.ref y) H2) (E σ)) :
    wpAny (model X.prog X.w) X.A (PySem.call (.ref C) us kw) (EP X pins σ Q) X.xe s := by
  have J := Inv.made (C := C) I
  have due := h (s.heap.objs.size + 1) s.heap.objs.size (I.hok.fresh (Nat.le_succ _)) (I.hok.fresh (Nat.le_refl _)) (Nat.ne_of_lt (Nat.lt_succ_self _))
  have body := F.run _ X.stack _ _ ⟨.ref (s.heap.objs.size + 1) :: us, kw⟩ full _ _ (E σ) (hr.make C us kw) (J.env0.make C us kw) (hb _ J.kIn) r due
  refine wpAny_call (make_map (f := f) I.kIn M.makes M.init (beq_iff_eq.mp M.fn) (codeAny_mono body ?_))
  intro o z hz
  match o, hz with
  | .error e, hz => exact hx pins _ _ e z J hz
  | .ok (.ret u), hz =>
    obtain ⟨v, H3, J3, rv, rfl, q⟩ := J.after hz
    exact ⟨rv, .ref _, H3, J3, rfl, q⟩
/-- C(e, .., k = v, ..) in a try -/
def tMakeKS (C : Addr) (n m : Nat) (sp : Sp) (gV : List V → List V → List V) (E : L2.St → XK) (t tk : TA) : TE := fun σ H Q => t σ H fun vs H1 => tk σ H1 fun zs H2 => vs.length = n ∧ zs.length = m ∧ ∀ y dy, H2 y = none → H2 dy = none → dy ≠ y →
  sp (gV (.ref y :: vs) zs) (upd (upd H2 dy (.own y)) y (.ins C dy [])) (fun v H3 => v = .non ∧ Q (.ref y) H3) (E σ)
theorem pe_makeKS (M : Mk X.K C f) (F : FnOk X.prog X.w X.K X.mg X.base CX k f fd ps sp) (hr : Room (k + 1) X.A) (hg : Gl X x) (hm : X.mg x = some (.ref C)) (hb : KBn X.K fd ps (n + 1) ks g gV) (hx : ∀ σ, PassesAt CX X σ (E σ)) (ha : PA X (e :: es) t) (hkw : PK X kws tk)
    (w1 : (backToKw pos (keywordEach kws X.env)).all (·.1.isSome) = true := by rfl) (w2 : (backToKw pos (keywordEach kws X.env)).filterMap (·.1) = ks := by rfl) (w3 : (x == ("__debug__" : Str)) = false := by decide)
    (w4 : starEach (e :: es) X.env = (false, eval e X.env) :: starEach es X.env := by rfl) (w5 : ((backTo pos (starEach (e :: es) X.env)).any (·.1) || (backToKw pos (keywordEach kws X.env)).any (·.1.isNone)) = false := by rfl) :
    PE X (.Call (.Name x p) (e :: es) kws pos) (tMakeKS C n ks.length sp gV E t tk) := by
  refine ⟨fun pins s σ H Q I h => wpAny_Call_Name_kw (ld_glob I hg hm (PySem.W.callWith_KW (h₀ := X.base) I.ok.mod.kin M.kp w1 (thn (ha.run pos pins s σ H _ I h) fun us s1 q1 => ?_) w5 w4) w3)⟩
  obtain ⟨vs, H1, I1, r, q1⟩ := q1
  refine thn (hkw.run pos pins s1 σ H1 _ I1 q1) fun ws s2 q2 => ?_
  obtain ⟨zs, H2, I2, rz, l1, l2, q2⟩ := q2
  refine ⟨I2.kIn, ?_⟩
  rw [w2]
  exact made (all := fun y => gV (.ref y :: vs) zs) M F hr (hx σ) I2 (fun z hz => hb.to z _ ws hz (by rw [List.length_cons, List.nil_append, ← r.length, l1]) (rz.length.symm.trans l2)) (hb.rel (.cons rfl r) rz) q2
/-- C(e, ..) in a try -/
def tMakeS (C : Addr) (sp : Sp) (dvs : List V) (E : L2.St → XK) (t : TA) : TE := fun σ H Q => t σ H fun vs H1 => ∀ y dy, H1 y = none → H1 dy = none → dy ≠ y → sp (.ref y :: (vs ++ dvs)) (upd (upd H1 dy (.own y)) y (.ins C dy [])) (fun v H2 => v = .non ∧ Q (.ref y) H2) (E σ)
theorem pe_makeS {dvs : List V} {ds : List Value} (M : Mk X.K C f) (F : FnOk X.prog X.w X.K X.mg X.base CX k f fd ps sp) (hr : Room (k + 1) X.A) (hg : Gl X x) (hm : X.mg x = some (.ref C)) (hb : Binds X.K fd ps ds) (hd : Vals dvs ds) (hx : ∀ σ, PassesAt CX X σ (E σ)) (ha : PA X (e :: es) t)
    (w3 : (x == ("__debug__" : Str)) = false := by decide) (w4 : starEach (e :: es) X.env = (false, eval e X.env) :: starEach es X.env := by rfl) (w5 : (backTo pos (starEach es X.env)).any (·.1) = false := by rfl) :
    PE X (.Call (.Name x p) (e :: es) [] pos) (tMakeS C sp dvs E t) := by
  refine ⟨fun pins s σ H Q I h => wpAny_Call_Name_kw (ld_glob I hg hm (PySem.W.callWith_K (h₀ := X.base) I.ok.mod.kin M.kp (thn (ha.run pos pins s σ H _ I h) fun us s1 q1 => ?_) w4 w5) w3)⟩
  obtain ⟨vs, H1, I1, r, q1⟩ := q1
  refine ⟨I1.kIn, ?_⟩
  have hq := q1 (s1.heap.objs.size + 1) s1.heap.objs.size (I1.hok.fresh (Nat.le_succ _)) (I1.hok.fresh (Nat.le_refl _)) (Nat.ne_of_lt (Nat.lt_succ_self _))
  have l : ((Value.ref (s1.heap.objs.size + 1) :: us) ++ ds).length = ps.length := by
    have := F.len _ _ _ _ hq
    rw [← this, List.cons_append, List.length_cons, List.length_cons, List.length_append, List.length_append, ← r.length, ← hd.length]
  exact made (all := fun y => .ref y :: (vs ++ dvs)) M F hr (hx σ) I1 (fun z hz => hb z (.ref (s1.heap.objs.size + 1) :: us) hz l) (.cons rfl (r.append hd)) q1
end
end TrM
namespace Rd
open PySem PySem.Spec PyProof.Rows L2
theorem mkKS {C : Addr} {n m : Nat} {sp : Sp} {gV : List V → List V → List V} {E : L2.St → XK} {t tk : TA} {σ : L2.St} {H : Hp} {Q : VK} (h : t σ H fun vs H1 => tk σ H1 fun zs H2 => vs.length = n ∧ zs.length = m ∧ ∀ y dy, H2 y = none → H2 dy = none → dy ≠ y →
    sp (gV (.ref y :: vs) zs) (upd (upd H2 dy (.own y)) y (.ins C dy [])) (fun v H3 => v = .non ∧ Q (.ref y) H3) (E σ)) : TrM.tMakeKS C n m sp gV E t tk σ H Q := h
theorem mkS {C : Addr} {sp : Sp} {dvs : List V} {E : L2.St → XK} {t : TA} {σ : L2.St} {H : Hp} {Q : VK} (h : t σ H fun vs H1 => ∀ y dy, H1 y = none → H1 dy = none → dy ≠ y →
    sp (.ref y :: (vs ++ dvs)) (upd (upd H1 dy (.own y)) y (.ins C dy [])) (fun v H2 => v = .non ∧ Q (.ref y) H2) (E σ)) : TrM.tMakeS C sp dvs E t σ H Q := h
end Rd
namespace Rd
open PySem PySem.Spec PyProof.Rows L2
section
variable {σ : L2.St} {H : Hp} {Q : VK}
theorem mkKn {C : Addr} {n m : Nat} {sp : Sp} {gV : List V → List V → List V} {E : XK} {t tk : TA} (h : t σ H fun vs H1 => tk σ H1 fun zs H2 => vs.length = n ∧ zs.length = m ∧ ∀ x dx, H2 x = none → H2 dx = none → dx ≠ x →
    sp (gV (.ref x :: vs) zs) (upd (upd H2 dx (.own x)) x (.ins C dx [])) (fun v H3 => v = .non ∧ Q (.ref x) H3) E) : tMakeK C n m sp gV E t tk σ H Q := h
theorem setD {a : Addr} {kvs : List (Key × V)} {z : Str} {v : V} {q : Hp → Prop} (e : H a = some (.dK kvs)) (l : kvs.length < sizeLine) (h : q (upd H a (.dK (putK kvs (.inr z) v)))) : rSetD (.ref a) (.str z) v H q :=
  ⟨a, _, rfl, DPut.k (k := Sum.inr z) e l, h⟩
end
end Rd
/-! operators of own classes in the body of a try, where their methods may err: the wish of the errors looks at the slots -/
namespace TrO
open PySem PySem.Spec PyProof.Rows L2 Own
section
variable {X : Cx} {CX : CXT} {k : Nat} {f C : Addr} {fd : FuncData} {ps : List Str} {sp : Sp} {E : L2.St → XK} {op : Operator}
theorem runInS {pins : List (Addr × Obj)} {σ : L2.St} {H : Hp} {s : Shared} {Q : VK} {us : List Value} {vs : List V} (F : FnOk X.prog X.w X.K X.mg X.base CX k f fd ps sp) (hr : Room (k + 1) X.A) (hb : Binds X.K fd ps []) (hx : PassesAt CX X σ (E σ))
    (I : Inv X pins σ H s) (r : Vals vs us) (h : sp vs H Q (E σ)) : wpAny (model X.prog X.w) X.A.in1 (PySem.call (.ref f) us) (EP X pins σ Q) X.xe s := by
  have n : us.length = ps.length := r.length.symm.trans (F.len _ _ _ _ h)
  have b := hb s us I.kIn (by rw [List.append_nil]; exact n)
  rw [List.append_nil] at b
  refine wpAny_call (codeAny_mono (F.run X.A.in1 X.stack s H ⟨us, []⟩ us vs Q (E σ) hr.in1 I.env0.in1 b r h) fun o z hz => ?_)
  match o, hz with
  | .error e, hz => exact hx pins H s e z I hz
  | .ok (.ret u), hz => exact I.after hz
/-- o[i] by the own __getitem__, in a try -/
def tItemS (C : Addr) (sp : Sp) (E : L2.St → XK) (ta tb : TE) : TE := fun σ H Q => ta σ H fun x H1 => tb σ H1 fun y H2 => ∃ a dx fs, x = .ref a ∧ H2 a = some (.ins C dx fs) ∧ sp [.ref a, y] H2 Q (E σ)
theorem pe_itemS {a b : PySem.Expr} {ta tb : TE} {pos : Pos} (F : FnOk X.prog X.w X.K X.mg X.base CX k f fd ps sp) (hr : Room (k + 1) X.A) (B : Sp1 X.K C "__getitem__" f) (hfn : PySem.W.fnIn X.K f = true)
    (hb : Binds X.K fd ps []) (hx : ∀ σ, PassesAt CX X σ (E σ)) (ha : PE X a ta) (hbb : PE X b tb)
    (hsl : ∀ o i, subscripted b true o i = runValue (.builtin "lifetime.subscript" ⟨[o, i], []⟩) := by intro _ _; with_unfolding_all rfl) :
    PE X (.Subscript a b pos) (tItemS C sp E ta tb) := by
  refine ⟨fun pins s σ H Q I h => Subscript_ (binT ha hbb I h fun v u s2 x y H2 I2 rx ry q => ?_)⟩
  obtain ⟨a, dx, fs, rfl, hi, q⟩ := q
  cases rx
  obtain ⟨od, J⟩ := inst I2 hi
  obtain ⟨m, hF⟩ := I2.fr
  exact PySem.W.sub_K hF I2.ok.mod.kin J B.at_ hfn B.fn (runInS (us := [.ref a, u]) (vs := [.ref a, y]) F hr hb (hx σ) I2 (.cons rfl (.cons ry .nil)) q) (hsl _ _)
/-- x op= e by an own in-place method, in a try -/
def tAugS (i : Nat) (C : Addr) (sp : Sp) (E : L2.St → XK) (te : TE) : TS := fun D σ H => ∃ x, σ[i]? = some (some x) ∧ te σ H fun y H1 => ∃ a dx fs, x = .ref a ∧ H1 a = some (.ins C dx fs) ∧ sp [.ref a, y] H1 (fun z H2 => D.nx (σ.set i (some z)) H2) (E σ)
theorem ps_augS {i : Nat} {x : Str} {e : PySem.Expr} {te : TE} {q1 q2 : Pos} (hN : X.N.Nodup) (hi : X.N[i]? = some x) (hl0 : X.env.scope.names.lookup x = some .local) (he : PE X e te) (F : FnOk X.prog X.w X.K X.mg X.base CX k f fd ps sp) (hr : Room k X.A)
    (c1 : PySem.W.selfFirst X.K C = true) (c2 : Sp1 X.K C (dunderI op.info.2) f) (hb : Binds X.K fd ps []) (hx : ∀ σ, PassesAt CX X σ (E σ)) :
    PS X (.AugAssign (.Name x q1) op e q2) (tAugS i C sp E te) := by
  refine ⟨fun pins s σ H D I h => wpAny_AugAssign_Name ?_⟩
  obtain ⟨v, ev, h⟩ := h
  obtain ⟨m, nm, ll⟩ := I.loc
  obtain ⟨u, r, look⟩ := ll i x v hi ev (.inl hl0)
  have go : wpAny (model X.prog X.w) X.A (eval e X.env) (fun y s2 => wpAny (model X.prog X.w) X.A (inplaceOp op u y) (fun z s3 => wpAny (model X.prog X.w) X.A (storeName X.env x z) (fun _ => SP X pins D .next) X.xe s3) X.xe s2) X.xe s := by
    refine thn (he.run pins s σ H _ I h) fun y s1 g => ?_
    obtain ⟨yv, H1, I1, ry, a, dx, fs, rfl, ha, g⟩ := g
    cases r
    obtain ⟨od, J⟩ := inst I1 ha
    obtain ⟨m1, hF⟩ := I1.fr
    refine thn (PySem.W.ksp_inplace hF I1.ok.mod.kin J c1 c2.at_ c2.fn (back (run_fnS (us := [.ref a, y]) (vs := [.ref a, yv]) F hr hb (hx σ) I1 (.cons rfl (.cons ry .nil)) g))) fun z s2 g2 => ?_
    obtain ⟨zv, H2, I2, rz, g3⟩ := g2
    exact store_ok I2 hN hi (.inl hl0) rz (fun s3 I3 => ⟨_, H2, I3, g3⟩) (.inr hl0)
  rcases look with ⟨k1, k2⟩ | ⟨k1, c, k3, k4⟩
  · exact wpAny_loadName_local I.ok.kind k1 nm k2 go
  · rcases k1 with k1 | k1
    · have z : X.env.scope.names.lookup x = some .cell := k1
      rw [hl0] at z; cases z
    · have z : X.env.scope.names.lookup x = some .free := k1
      rw [hl0] at z; cases z
end
end TrO
namespace Rd
open PySem PySem.Spec PyProof.Rows L2
section
variable {σ : L2.St} {H : Hp} {Q : VK} {D : Ends} {C : Addr} {sp : Sp} {E : L2.St → XK}
theorem itS {ta tb : TE} (h : ta σ H fun x H1 => tb σ H1 fun y H2 => ∃ a dx fs, x = V.ref a ∧ H2 a = some (.ins C dx fs) ∧ sp [.ref a, y] H2 Q (E σ)) : TrO.tItemS C sp E ta tb σ H Q := h
theorem augS {i : Nat} {te : TE} {x : V} (e : σ[i]? = some (some x)) (h : te σ H fun y H1 => ∃ a dx fs, x = V.ref a ∧ H1 a = some (.ins C dx fs) ∧ sp [.ref a, y] H1 (fun z H2 => D.nx (σ.set i (some z)) H2) (E σ)) : TrO.tAugS i C sp E te D σ H := ⟨x, e, h⟩
end
end Rd
/-! lcm out of math: a global that is a built-in function -/
namespace Lcm
open PySem PySem.Spec PyProof.Rows L2
section
variable {X : Cx} {p pos : Pos} {x : Str} {e : PySem.Expr} {es : List PySem.Expr} {t : TA} {id : String} {r : List V → Hp → VK → Prop}
theorem pe_callGB (hc : CallR X (.builtin id) r) (hg : Gl X x) (hm : X.mg x = some (.builtin id)) (ha : PA X (e :: es) t) (hdb : (x == ("__debug__" : Str)) = false := by decide)
    (he : starEach (e :: es) X.env = (false, eval e X.env) :: starEach es X.env := by rfl) (hpl : (backTo pos (starEach es X.env)).any (·.1) = false := by rfl) : PE X (.Call (.Name x p) (e :: es) [] pos) (tCB r t) := by
  refine ⟨fun pins s σ H Q I h => ?_⟩
  refine wpAny_Call_Name_kw (ld_glob I hg hm ?_ hdb)
  exact PyProof.Rows.callWith_builtin1 (thn (ha.run pos pins s σ H _ I h) fun us s1 ⟨vs, H1, I1, r1, q1⟩ => hc pins s1 σ H1 vs us Q I1 r1 q1) he hpl
def lcmI (a b : Int) : Int := ((a.natAbs.lcm b.natAbs : Nat) : Int)
def rLcm : List V → Hp → VK → Prop := fun vs H Q => ∃ a b : Int, vs = [.int a, .int b] ∧ a.natAbs < 2 ^ 64 ∧ b.natAbs < 2 ^ 64 ∧ Q (.int (lcmI a b)) H
theorem call_lcm : CallR X (.builtin "math.lcm") rLcm := by
  intro pins s σ H vs us Q I r h
  obtain ⟨a, b, rfl, ha, hb, q⟩ := h
  cases r with
  | cons r1 rr =>
    cases rr with
    | cons r2 r3 =>
      cases r3
      obtain ⟨t1, rfl⟩ := r1
      obtain ⟨t2, rfl⟩ := r2
      exact PySem.W.mc_lcm ha hb fun _ => ⟨.int (lcmI a b), H, I.tok _, ⟨_, rfl⟩, q⟩
theorem lcm_pos {a b : Int} (h1 : 1 ≤ a) (h2 : 1 ≤ b) : 1 ≤ lcmI a b := by
  unfold lcmI
  have := Nat.lcm_pos (show 0 < a.natAbs by omega) (show 0 < b.natAbs by omega)
  omega
theorem lcm_mul {a b : Int} (h1 : 1 ≤ a) (h2 : 1 ≤ b) : lcmI a b % a = 0 ∧ lcmI a b % b = 0 := by
  unfold lcmI
  constructor
  · exact Int.emod_eq_zero_of_dvd (Int.natAbs_dvd_natAbs.mp (show a.natAbs ∣ _ from Nat.dvd_lcm_left _ _))
  · exact Int.emod_eq_zero_of_dvd (Int.natAbs_dvd_natAbs.mp (show b.natAbs ∣ _ from Nat.dvd_lcm_right _ _))
theorem lcm_le {a b : Int} (h1 : 1 ≤ a) (h2 : 1 ≤ b) : lcmI a b ≤ a * b := by
  unfold lcmI
  have := PySem.W.mc_lcm_le a.natAbs b.natAbs
  have e : ((a.natAbs * b.natAbs : Nat) : Int) = a * b := by rw [Int.natCast_mul, Int.natAbs_of_nonneg (by omega), Int.natAbs_of_nonneg (by omega)]
  omega
theorem lcm_one {b : Int} (h2 : 1 ≤ b) : lcmI 1 b = b := by
  unfold lcmI
  rw [show (1 : Int).natAbs = 1 from rfl, PySem.W.mc_lcm_one]
  omega
end
end Lcm
/-! list(range(a, b)) -/
namespace Rd
open PySem PySem.Spec PyProof.Rows L2
theorem lrg {ta tb : TE} {σ : L2.St} {H : Hp} {Q : VK} (h : ta σ H fun x H1 => tb σ H1 fun y H2 => ∃ i j, x = V.int i ∧ y = V.int j ∧ RgOk i j ∧ ∀ q, H2 q = none → Q (.ref q) (upd H2 q (.lst (L2.rgV i j)))) : tLstRg (tRg2 ta tb) σ H Q := h
def rgI (a b : Int) : List Int := (List.range (b - a).toNat).map fun i => a + (i : Nat)
theorem rgV_eq (a b : Int) : L2.rgV a b = (rgI a b).map V.int := by unfold L2.rgV rgI; rw [List.map_map]; rfl
theorem rgI_len (a b : Int) : (rgI a b).length = (b - a).toNat := by unfold rgI; rw [List.length_map, List.length_range]
theorem rgI_mem {a b x : Int} : x ∈ rgI a b ↔ a ≤ x ∧ x < b := by
  unfold rgI
  rw [List.mem_map]
  constructor
  · rintro ⟨i, hi, rfl⟩
    rw [List.mem_range] at hi
    omega
  · rintro ⟨h1, h2⟩
    exact ⟨(x - a).toNat, by rw [List.mem_range]; omega, by omega⟩
theorem rgI_cons {a b : Int} (h : a < b) : rgI a b = a :: rgI (a + 1) b := by
  unfold rgI
  rw [show (b - a).toNat = (b - (a + 1)).toNat + 1 by omega, List.range_succ_eq_map, List.map_cons, List.map_map]
  congr 1
  · simp
  · refine List.map_congr_left fun i _ => ?_
    show a + ((i + 1 : Nat) : Int) = a + 1 + (i : Nat)
    omega
theorem rgI_nil {a b : Int} (h : b ≤ a) : rgI a b = [] := by
  unfold rgI
  rw [show (b - a).toNat = 0 by omega]; rfl
end Rd
/-! ## an own operator beside any object of a built-in type; own operators and comparisons in a try -/
namespace Own
open PySem PySem.Spec PyProof.Rows L2
section
variable {prog : Program} {w : World} {A : Around} {E : Value → Shared → Prop} {s : Shared} {K : PySem.W.Frag} {x C dx f : Addr} {od : Option Obj} {op : Operator} {T : String}
theorem binTL {b : Value} {r : Bool} {ro rc : Option Value} {Q : Value → Shared → Prop} (KX : K.In s.heap) (I : PySem.W.InstAt s.heap x (PySem.W.instObj C dx) C od) (hc : PySem.W.selfFirst K C = true) (tb : PySem.W.Looks (model prog w) s.heap (typeOf b) (.type T))
    (h0 : PySem.W.findIn K (.ref C) (PySem.dunder op.info.2) = some (some (.ref f))) (hf : PySem.W.isFn K (.ref f) = true) (hfill : PySem.W.Looks (model prog w) s.heap (fillsNumberSlot (.type T) op.info.2) r)
    (hrc : PySem.W.findIn K (.ref C) (dunderR op.info.2) = some rc) (hp : rc = none ∨ ∃ g : Addr, rc = some (.ref g)) (hro : PySem.W.findIn K (.type T) (dunderR op.info.2) = some ro) (hsub : PySem.W.subIn K (.type T) (.ref C) = some false)
    (h : wpAny (model prog w) A (call (.ref f) [.ref x, b]) (PySem.W.CmpBack Q) E s) : wpAny (model prog w) A (binaryOp op (.ref x) b) Q E s := by
  obtain ⟨cd, rest, hcd, hm⟩ := PySem.W.ksp_first hc
  rcases hi : op.info with ⟨sym, nm⟩
  rw [hi] at h0 hfill hrc hro
  dsimp only at h0 hfill hrc hro
  have one := PySem.W.ksp_try KX I h0 hf h
  obtain ⟨hh, g, d, tt, os⟩ := s
  have Z1 : PySem.W.Looks (model prog w) hh (typeOf (.ref x)) (.ref C) := I.type
  have Z3 : PySem.W.Looks (model prog w) hh (fillsNumberSlot (.ref C) nm) true := PySem.W.fills_K KX hcd hm h0
  have Z5 : PySem.W.Looks (model prog w) hh (isSubtype (.type T) (.ref C)) false := PySem.W.looks_subIn KX hsub
  have Z6 : PySem.W.Looks (model prog w) hh (numberSlotInPython (.ref C) nm) true := PySem.W.ksp_inPy KX h0 hrc hp
  have Z7 : PySem.W.Looks (model prog w) hh (numberSlotInPython (.type T) nm) false := PySem.W.Looks.of_pure rfl
  have Z8 : PySem.W.Looks (model prog w) hh (typeLookup (.type T) (dunderR nm)) ro := PySem.W.looks_findIn KX hro
  have nc : (Value.ref C == Value.type T) = false := Bool.eq_false_iff.mpr fun q => nomatch beq_iff_eq.mp q
  simp only [binaryOp, hi]
  refine wpAny_holding (wpAny_bind (?_ : _))
  unfold binaryOp1
  refine wpAny_bind (Z1.at (wpAny_bind (tb.at (wpAny_bind (Z3.at (?_ : _))))))
  simp only [nc, Bool.false_eq_true, if_false]
  rcases r with _ | _
  · refine wpAny_bind (hfill.at (?_ : _))
    simp only [Bool.and_false, Bool.false_and, Bool.false_eq_true, if_false, pure_bind, Bool.not_false, Bool.and_self, if_true]
    refine wpAny_bind (wpAny_mono one (fun r s' q => ?_) fun _ _ e => e)
    obtain ⟨v, rfl, q⟩ := q
    exact wpAny_pure (wpAny_pure q)
  · ksp_lk
    refine wpAny_mono one (fun r s' q => ?_) fun _ _ e => e
    obtain ⟨v, rfl, q⟩ := q
    ksp_lk
    exact q
end
/-- what an own operator wants of a built-in type at its right -/
structure BinU (K : PySem.W.Frag) (C : Addr) (op : Operator) (T : String) : Prop where
  l : ∃ fo ro, PySem.W.findIn K (.type T) (PySem.dunder op.info.2) = some fo ∧ PySem.W.findIn K (.type T) (dunderR op.info.2) = some ro
  sub : PySem.W.subIn K (.type T) (.ref C) = some false
structure BinA (K : PySem.W.Frag) (C f : Addr) (op : Operator) : Prop where
  b : Bin K C f op
  r : ∃ rc, PySem.W.findIn K (.ref C) (dunderR op.info.2) = some rc ∧ (rc = none ∨ ∃ g : Addr, rc = some (.ref g))
  t : ∀ T ∈ (["NoneType", "int", "bool", "str", "tuple", "list", "dict"] : List String), BinU K C op T
section
variable {X : Cx} {CX : CXT} {k : Nat} {f C : Addr} {fd : FuncData} {ps : List Str} {sp : Sp} {E : XK}
/-- x not in o by the own __contains__ -/
theorem notin (F : FnOk X.prog X.w X.K X.mg X.base CX k f fd ps sp) (hr : Room k X.A) (B : Sp1 X.K C "__contains__" f) (hb : Binds X.K fd ps []) (hx : Passes CX X E) :
    OpR X (compareOp .NotIn) (fun x y H Q => ∃ a dx fs, y = .ref a ∧ H a = some (.ins C dx fs) ∧ sp [.ref a, x] H (fun v H' => ∃ b, v = .bl b ∧ Q (.bl (!b)) H') E) := by
  rintro pins s σ H x y u v Q I rx ry ⟨a, dx, fs, rfl, ha, q⟩
  cases ry
  obtain ⟨od, J⟩ := inst I ha
  obtain ⟨m, hF⟩ := I.fr
  refine PySem.W.notIn_K hF I.ok.mod.kin J B.at_ B.fn (wpAny_mono (run2 (x := .ref a) F hr hb hx I rfl rx q) (fun r s' hq => ?_) fun _ _ e => e)
  obtain ⟨z, H', I', rz, b, rfl, q'⟩ := hq
  cases rz
  exact wpAny_truthy_bool ⟨.bl (!b), H', I', rfl, q'⟩
end
end Own
namespace TrO
open PySem PySem.Spec PyProof.Rows L2 Own
section
variable {X : Cx} {CX : CXT} {k : Nat} {f C : Addr} {fd : FuncData} {ps : List Str} {sp : Sp} {E : L2.St → XK} {op : Operator} {cop : CmpOp}
theorem run2S {pins : List (Addr × Obj)} {σ : L2.St} {H : Hp} {s : Shared} {Q : VK} {x y : V} {u v : Value} (F : FnOk X.prog X.w X.K X.mg X.base CX k f fd ps sp) (hr : Room k X.A) (hb : Binds X.K fd ps []) (hx : PassesAt CX X σ (E σ))
    (I : Inv X pins σ H s) (rx : RelV x u) (ry : RelV y v) (h : sp [x, y] H Q (E σ)) : wpAny (model X.prog X.w) X.A (PySem.call (.ref f) [u, v]) (EP X pins σ Q) X.xe s :=
  run_fnS (us := [u, v]) (vs := [x, y]) F hr hb hx I (.cons rx (.cons ry .nil)) h
/-- x op y, both of the own class, in a try -/
def tBinS (C : Addr) (sp : Sp) (E : L2.St → XK) (ta tb : TE) : TE := fun σ H Q => ta σ H fun x H1 => tb σ H1 fun y H2 => ∃ a b dx dy fs gs, x = .ref a ∧ y = .ref b ∧ H2 a = some (.ins C dx fs) ∧ H2 b = some (.ins C dy gs) ∧ sp [.ref a, .ref b] H2 Q (E σ)
theorem pe_binS {a b : PySem.Expr} {ta tb : TE} {pos : Pos} (F : FnOk X.prog X.w X.K X.mg X.base CX k f fd ps sp) (hr : Room k X.A) (B : Bin X.K C f op) (hb : Binds X.K fd ps []) (hx : ∀ σ, PassesAt CX X σ (E σ)) (ha : PE X a ta) (hbb : PE X b tb) :
    PE X (.BinOp a op b pos) (tBinS C sp E ta tb) := by
  refine ⟨fun pins s σ H Q I h => wpAny_BinOp (binT ha hbb I h fun v u s2 x y H2 I2 rx ry q => ?_)⟩
  obtain ⟨a, b, dx, dy, fs, gs, rfl, rfl, h1, h2, q⟩ := q
  cases rx
  cases ry
  obtain ⟨od, J⟩ := inst I2 h1
  obtain ⟨od', J'⟩ := inst I2 h2
  obtain ⟨m, hF⟩ := I2.fr
  exact PySem.W.binop_K hF I2.ok.mod.kin J J'.type B.first B.at_ B.fn (back (run2S (E := E) (x := .ref a) (y := .ref b) F hr hb (hx σ) I2 rfl rfl q))
/-- x op y, y any object of a built-in type, in a try -/
def tBinX (K : PySem.W.Frag) (C : Addr) (sp : Sp) (E : L2.St → XK) (ta tb : TE) : TE := fun σ H Q => ta σ H fun x H1 => tb σ H1 fun y H2 => ∃ a dx fs T, x = .ref a ∧ H2 a = some (.ins C dx fs) ∧ T ∈ (["NoneType", "int", "bool", "str", "tuple", "list", "dict"] : List String) ∧ TyX K H2 y (.type T) ∧ sp [.ref a, y] H2 Q (E σ)
theorem pe_binX {K : PySem.W.Frag} (ek : X.K = K) {a b : PySem.Expr} {ta tb : TE} {pos : Pos} (F : FnOk X.prog X.w X.K X.mg X.base CX k f fd ps sp) (hr : Room k X.A) (B : BinA X.K C f op) (hb : Binds X.K fd ps []) (hx : ∀ σ, PassesAt CX X σ (E σ)) (ha : PE X a ta) (hbb : PE X b tb) :
    PE X (.BinOp a op b pos) (tBinX K C sp E ta tb) := by
  subst ek
  refine ⟨fun pins s σ H Q I h => wpAny_BinOp (binT ha hbb I h fun v u s2 x y H2 I2 rx ry q => ?_)⟩
  obtain ⟨a, dx, fs, T, rfl, h1, hT, ty, q⟩ := q
  cases rx
  obtain ⟨od, J⟩ := inst I2 h1
  obtain ⟨⟨fo, ro, l1, l2⟩, sb⟩ := B.t T hT
  obtain ⟨rc, r1, r2⟩ := B.r
  exact binTL I2.kIn J B.b.first (typed I2 ry ty) B.b.at_ B.b.fn (PySem.W.ksp_fillsT I2.kIn l1 l2) r1 r2 l2 sb (back (run2S (E := E) (x := .ref a) F hr hb (hx σ) I2 rfl ry q))
/-- x cop y by an own comparison, in a try -/
def tCmpS (K : PySem.W.Frag) (C : Addr) (sp : Sp) (E : L2.St → XK) (ta tb : TE) : TE := fun σ H Q => ta σ H fun x H1 => tb σ H1 fun y H2 => ∃ a dx fs t, x = .ref a ∧ H2 a = some (.ins C dx fs) ∧ TyX K H2 y t ∧ PySem.W.notFirst K C t = true ∧ sp [.ref a, y] H2 Q (E σ)
theorem pe_cmpS {K : PySem.W.Frag} (ek : X.K = K) {a b : PySem.Expr} {ta tb : TE} {pos : Pos} (F : FnOk X.prog X.w X.K X.mg X.base CX k f fd ps sp) (hr : Room k X.A) (B : Sp1 X.K C (cmpInfo cop).2.1 f) (hb : Binds X.K fd ps []) (hx : ∀ σ, PassesAt CX X σ (E σ)) (ha : PE X a ta) (hbb : PE X b tb)
    (hm : behindInMarks cop b = false) (ho : ∀ a b, compareOp cop a b = richCompare cop a b := by intro _ _; rfl) : PE X (.Compare a [cop] [b] pos) (tCmpS K C sp E ta tb) := by
  subst ek
  refine ⟨fun pins s σ H Q I h => wpAny_Compare1 (binT ha hbb I h fun v u s2 x y H2 I2 rx ry q => ?_) hm⟩
  obtain ⟨a, dx, fs, t, rfl, h1, ty, nf, q⟩ := q
  cases rx
  obtain ⟨od, J⟩ := inst I2 h1
  obtain ⟨m, hF⟩ := I2.fr
  rw [ho]
  exact PySem.W.cmp_K hr.units0 hF I2.ok.mod.kin J (typed I2 ry ty) nf B.at_ B.fn (back (run2S (E := E) (x := .ref a) F hr hb (hx σ) I2 rfl ry q))
end
end TrO
namespace Rd
open PySem PySem.Spec PyProof.Rows L2
section
variable {σ : L2.St} {H : Hp} {Q : VK} {C : Addr} {sp : Sp} {E : L2.St → XK} {K : PySem.W.Frag} {ta tb : TE}
theorem binS (h : ta σ H fun x H1 => tb σ H1 fun y H2 => ∃ a b dx dy fs gs, x = V.ref a ∧ y = V.ref b ∧ H2 a = some (.ins C dx fs) ∧ H2 b = some (.ins C dy gs) ∧ sp [.ref a, .ref b] H2 Q (E σ)) : TrO.tBinS C sp E ta tb σ H Q := h
theorem binX (h : ta σ H fun x H1 => tb σ H1 fun y H2 => ∃ a dx fs T, x = V.ref a ∧ H2 a = some (.ins C dx fs) ∧ T ∈ (["NoneType", "int", "bool", "str", "tuple", "list", "dict"] : List String) ∧ TyX K H2 y (.type T) ∧ sp [.ref a, y] H2 Q (E σ)) : TrO.tBinX K C sp E ta tb σ H Q := h
theorem cmpS (h : ta σ H fun x H1 => tb σ H1 fun y H2 => ∃ a dx fs t, x = V.ref a ∧ H2 a = some (.ins C dx fs) ∧ TyX K H2 y t ∧ PySem.W.notFirst K C t = true ∧ sp [.ref a, y] H2 Q (E σ)) : TrO.tCmpS K C sp E ta tb σ H Q := h
end
end Rd
/-! ## bool(o) by the own __bool__ (as in dq.lean) -/
namespace Own
open PySem PySem.Spec PyProof.Rows L2
section
variable {X : Cx} {CX : CXT} {k : Nat} {f f0 C : Addr} {fd : FuncData} {ps : List Str} {sp : Sp} {E : XK} {op : Operator}
theorem runIn2 {pins : List (Addr × Obj)} {σ : L2.St} {H : Hp} {s : Shared} {Q : VK} {us : List Value} {vs : List V} (F : FnOk X.prog X.w X.K X.mg X.base CX k f fd ps sp) (hr : Room (k + 2) X.A) (hb : Binds X.K fd ps []) (hx : Passes CX X E)
    (I : Inv X pins σ H s) (r : Vals vs us) (h : sp vs H Q E) : wpAny (model X.prog X.w) X.A.in1.in1 (PySem.call (.ref f) us) (EP X pins σ Q) X.xe s := by
  have hl : us.length = ps.length := by rw [← r.length]; exact F.len _ _ _ _ h
  have hb' := hb s us I.kIn (by simpa using hl)
  rw [List.append_nil] at hb'
  refine wpAny_call (codeAny_mono (F.run X.A.in1.in1 X.stack s H ⟨us, []⟩ us vs Q E hr.in1.in1 I.env0.in1.in1 hb' r h) fun r s' hq => ?_)
  cases r with
  | error e => exact hx pins σ H s e s' I hq
  | ok fl =>
    cases fl with
    | ret u => exact I.after hq
    | next => exact False.elim hq
    | brk => exact False.elim hq
    | cont => exact False.elim hq
theorem boolOwn (F : FnOk X.prog X.w X.K X.mg X.base CX k f fd ps sp) (hr : Room (k + 2) X.A) (B : Sp1 X.K C "__bool__" f) (hb : Binds X.K fd ps []) (hx : Passes CX X E) :
    CallR X (.type "bool") (fun xs H Q => ∃ a dx fs, xs = [.ref a] ∧ H a = some (.ins C dx fs) ∧ sp [.ref a] H (fun v H' => ∃ b, v = .bl b ∧ Q (.bl b) H') E) := by
  rintro pins s σ H xs us Q I rs ⟨a, dx, fs, rfl, ha, q⟩
  cases rs with
  | cons r rest =>
    cases rest
    cases r
    obtain ⟨od, J⟩ := inst I ha
    obtain ⟨m, hF⟩ := I.fr
    have tr : wpAny (model X.prog X.w) X.A.in1.in1 (truthy (.ref a)) (fun b s' => EP X pins σ Q (.bool b) s') X.xe s :=
      PySem.W.truthy_K hF I.ok.mod.kin J B.at_ B.fn (wpAny_mono (runIn2 (us := [.ref a]) (vs := [.ref a]) F hr hb hx I (.cons rfl .nil) q) (fun r s' hq => by
        obtain ⟨z, H', I', rz, b, rfl, q'⟩ := hq
        cases rz
        exact ⟨.bl b, H', I', rfl, q'⟩) fun _ _ e => e)
    refine callType_codes (Q₁ := fun obj s₁ => ∃ b, obj = Value.bool b ∧ EP X pins σ Q obj s₁) PySem.F.called_bool (PySem.F.typeCall_bool_1 _) PySem.F.entry_object_init ?_ ?_
    · refine codeAny_call_builtin PySem.F.called_bool.plain PySem.F.entry_bool_new (wpAny_of_eq (PySem.F.newCall_bool_1 _) ?_)
      unfold Builtin.«bool.__new__»
      have f1 := PySem.F.conv_sub_bool
      refine wpAny_bind (wpAny_of_eq (a := true) rfl ?_)
      rw [if_neg (by decide)]
      refine wpAny_bind (wpAny_of_eq f1 ?_)
      rw [if_neg (by decide)]
      refine wpAny_bind (wpAny_of_eq (a := [Value.ref a]) (by rfl) ?_)
      dsimp only
      refine wpAny_bind (wpAny_mono tr (fun b s' hq => ?_) fun _ _ e => e)
      exact wpAny_pure ⟨_, rfl, hq⟩
    · rintro obj s₁ ⟨b, rfl, hq⟩
      have hT : s₁.TypeIs (.bool b) "bool" := PyProof.Rows.typeIs_bool' s₁ b
      exact ⟨hT, PySem.F.args_object_init_2 _ _, object_init_meets PySem.F.called_bool.init.lookup PySem.F.called_bool.made PySem.F.newNe_bool X.prog X.w X.A.in1 _ s₁ ⟨hT, rfl, hq⟩⟩
end
end Own

/-! ## heaps: what a step leaves -/
def Frm (a : Nat) (H H' : L2.Hp) : Prop := ∀ b o, H b = some o → b ≠ a → H' b = some o
section
open PySem L2
variable {H H' H1 H2 : Hp} {a b p : Nat} {o u : HO}
theorem Frm.get (f : Frm a H H') (h : H b = some o) (n : b ≠ a) : H' b = some o := f b o h n
theorem Sget (f : L2.Same H H') (h : H b = some o) : H' b = some o := f b o h
theorem Frm.free (f : Frm a H H') (n : b ≠ a) (h : H' b = none) : H b = none := by
  cases q : H b with
  | none => rfl
  | some o => rw [f b o q n] at h; cases h
theorem Sfree (f : L2.Same H H') (h : H' b = none) : H b = none := L2.Same.free f h
theorem updFree (h : upd H a o b = none) : H b = none := by
  unfold upd at h
  split at h
  · cases h
  · exact h
theorem updGet' (h : H b = some o) (n : b ≠ a) : upd H a u b = some o := by rw [upd_ne n]; exact h
theorem ne_none (h : H b = none) (h' : H a = some o) : a ≠ b := ne_of_none h' h
theorem ne_none' (h : H a = none) (h' : H b = some o) : a ≠ b := (ne_of_none h' h).symm
theorem updFresh (n : H a = none) (h : H b = some o) : upd H a u b = some o := updGet' h (ne_of_none h n)
theorem updMade {x dx : Nat} {v : HO} (n : H x = none) (m : H dx = none) (h : H b = some o) : upd (upd H dx u) x v b = some o := updGet' (updGet' h (ne_of_none h m)) (ne_of_none h n)
theorem Frm.get' (f : Frm a H H') (n : b ≠ a) (h : H b = some o) : H' b = some o := f b o h n
theorem updGet (n : b ≠ a) (h : H b = some o) : upd H a u b = some o := by rw [upd_ne n]; exact h
end

local macro_rules | `(tactic| walk_at "hp") => `(tactic| first
  | with_reducible assumption
  | with_reducible exact L2.upd_same
  | ((with_reducible apply updFresh); (· with_reducible assumption); (· walk_at "hp"))
  | ((with_reducible apply updMade); (· with_reducible assumption); (· with_reducible assumption); (· walk_at "hp"))
  | ((with_reducible apply updGet); (· walk_at "ne"); (· walk_at "hp"))
  | ((with_reducible apply Sget); (· with_reducible assumption); (· walk_at "hp"))
  | ((with_reducible apply Frm.get'); (· with_reducible assumption); (· walk_at "ne"); (· walk_at "hp"))
  | fail "hp")
local macro_rules | `(tactic| walk_at "ne") => `(tactic| first
  | with_reducible assumption
  | exact Ne.symm (by with_reducible assumption)
  | ((with_reducible apply ne_none); (· with_reducible assumption); (· walk_at "hp"))
  | ((with_reducible apply ne_none'); (· with_reducible assumption); (· walk_at "hp"))
  | ((with_reducible apply L2.ne_of); (· walk_at "hp"); (· walk_at "hp"); (· (intro z; cases z)))
  | fail "ne")
local macro_rules | `(tactic| walk_at "vr") => `(tactic| with_unfolding_all rfl)
local macro_rules | `(tactic| walk_at "hpl") => `(tactic| first
  | with_reducible assumption
  | ((with_reducible apply L2.SqL.of); walk_at "hp"))
local macro_rules | `(tactic| walk_at "hpt") => `(tactic| first
  | with_reducible assumption
  | ((with_reducible apply L2.SqT.of); walk_at "hp"))
local macro_rules | `(tactic| walk_at "hpq") => `(tactic| first
  | with_reducible assumption
  | (apply Or.inl; walk_at "hpl")
  | (apply Or.inr; walk_at "hpt"))
local macro_rules | `(tactic| walk_at "sc") => `(tactic| first
  | with_reducible assumption
  | omega
  | decide
  | ((repeat' split) <;> omega))
local macro_rules | `(tactic| walk_at "scp") => `(tactic| (unfold L2.CPow; omega))
local macro_rules | `(tactic| walk_at "ll") => `(tactic| with_unfolding_all exact Nat.le_of_ble_eq_true rfl)
theorem wm {i j : Int} (hi : -(2 ^ 200) < i ∧ i < 2 ^ 200) (hj : -(2 ^ 200) < j ∧ j < 2 ^ 200) : L2.CMulW i j :=
  L2.wide_mul (a := 200) (b := 200) (by omega) (by omega) (by decide) (by decide) (by decide)
theorem wd {i j : Int} (h : 0 < j) (hj : j < 2 ^ 200) : L2.CDivW i j :=
  L2.wide_div (b := 200) h (by omega) (by decide) (by decide)
local macro_rules | `(tactic| walk_at "scm") => `(tactic| exact wm ⟨by walk_at "sc", by walk_at "sc"⟩ ⟨by walk_at "sc", by walk_at "sc"⟩)
local macro_rules | `(tactic| walk_at "scd") => `(tactic| exact wd (by walk_at "sc") (by walk_at "sc"))
local macro_rules | `(tactic| walk_at "clsv") => `(tactic| first | exact L2.ClsV.ty _ | exact L2.ClsV.own _)
local macro_rules | `(tactic| walk_at "kit") => `(tactic| first | with_reducible exact Rd.kit_int_int | with_reducible exact Rd.kit_int_bool | with_reducible exact Rd.kit_bool_bool | with_reducible exact Rd.kit_str_str | with_reducible exact Rd.kit_bool_int | with_reducible exact Rd.kit_str_int | with_reducible exact Rd.kit_none_int | with_reducible exact Rd.kit_tuple_int | with_reducible exact Rd.kit_list_int | with_reducible exact Rd.kit_dict_int | with_reducible exact Rd.kit_str_bool | with_reducible exact Rd.kit_int_str | with_reducible assumption)
local macro_rules | `(tactic| walk_at "nf") => `(tactic| with_reducible assumption)
local macro_rules | `(tactic| walk_at "tyx") => `(tactic| first | exact L2.TyX.base (L2.TyOf.int _) | exact L2.TyX.base (L2.TyOf.bl _) | exact L2.TyX.base L2.TyOf.non | exact L2.TyX.base (L2.TyOf.str _) | ((with_reducible apply Rd.ty_tup); walk_at "hp") | ((with_reducible apply Rd.ty_lst); walk_at "hp"))
local macro_rules | `(tactic| walk_at "frm") => `(tactic| first | (intro b o hb; walk_at "hp") | (intro b o hb hn; walk_at "hp"))
local macro_rules | `(tactic| walk_at "nn") => `(tactic| first
  | with_reducible assumption
  | exact updFree (by with_reducible assumption)
  | exact updFree (updFree (by with_reducible assumption))
  | exact updFree (updFree (updFree (by with_reducible assumption)))
  | exact updFree (updFree (updFree (updFree (by with_reducible assumption))))
  | exact updFree (updFree (updFree (updFree (updFree (by with_reducible assumption)))))
  | exact updFree (updFree (updFree (updFree (updFree (updFree (by with_reducible assumption))))))
  | exact updFree (updFree (updFree (updFree (updFree (updFree (updFree (by with_reducible assumption)))))))
  | exact updFree (updFree (updFree (updFree (updFree (updFree (updFree (updFree (by with_reducible assumption))))))))
  | exact updFree (updFree (updFree (updFree (updFree (updFree (updFree (updFree (updFree (by with_reducible assumption)))))))))
  | exact updFree (updFree (updFree (updFree (updFree (updFree (updFree (updFree (updFree (updFree (by with_reducible assumption))))))))))
  | exact updFree (updFree (updFree (updFree (updFree (updFree (updFree (updFree (updFree (updFree (updFree (by with_reducible assumption)))))))))))
  | exact updFree (updFree (updFree (updFree (updFree (updFree (updFree (updFree (updFree (updFree (updFree (updFree (by with_reducible assumption))))))))))))
  | exact updFree (updFree (updFree (updFree (updFree (updFree (updFree (updFree (updFree (updFree (updFree (updFree (updFree (by with_reducible assumption)))))))))))))
  | exact updFree (updFree (updFree (updFree (updFree (updFree (updFree (updFree (updFree (updFree (updFree (updFree (updFree (updFree (by with_reducible assumption))))))))))))))
  | exact updFree (updFree (updFree (updFree (updFree (updFree (updFree (updFree (updFree (updFree (updFree (updFree (updFree (updFree (updFree (by with_reducible assumption)))))))))))))))
  | exact updFree (updFree (updFree (updFree (updFree (updFree (updFree (updFree (updFree (updFree (updFree (updFree (updFree (updFree (updFree (updFree (by with_reducible assumption))))))))))))))))
  | exact updFree (updFree (updFree (updFree (updFree (updFree (updFree (updFree (updFree (updFree (updFree (updFree (updFree (updFree (updFree (updFree (updFree (by with_reducible assumption)))))))))))))))))
  | exact updFree (updFree (updFree (updFree (updFree (updFree (updFree (updFree (updFree (updFree (updFree (updFree (updFree (updFree (updFree (updFree (updFree (updFree (by with_reducible assumption))))))))))))))))))
  | ((with_reducible apply Sfree); (· with_reducible assumption); (· walk_at "nn")))
local macro_rules | `(tactic| walk_at "em") => `(tactic| first | rfl | (simp only [Int.emod_add_emod, Int.emod_sub_emod, Int.sub_emod_emod, Int.emod_emod]; first | done | rfl | (congr 1; omega)))
local macro_rules | `(tactic| walk_at "dp") => `(tactic| first | ((with_reducible apply Rd.dp_nil); walk_at "hpl") | ((with_reducible apply Rd.dp_listI); walk_at "hpl") | ((with_reducible apply Rd.dp_pair); walk_at "hpt") | ((with_reducible apply L2.Dp.lst); (· walk_at "hpl"); (· walk_at "dpa")) | ((with_reducible apply L2.Dp.tup); (· walk_at "hpt"); (· walk_at "dpa")))
local macro_rules | `(tactic| walk_at "dpt") => `(tactic| first | ((with_reducible apply Rd.dp_pair); (· walk_at "hpt")) | ((with_reducible apply L2.Dp.tup); (· walk_at "hpt"); (· walk_at "dpa")) | fail "dpt")
local macro_rules | `(tactic| walk_at "dpa") => `(tactic| first | with_reducible exact L2.DpAll.nil | ((with_reducible apply L2.DpAll.cons); (· walk_at "dp1"); (· walk_at "dpa")))
local macro_rules | `(tactic| walk_at "dp1") => `(tactic| first | with_reducible exact L2.Dp.int _ | with_reducible exact L2.Dp.bl _ | with_reducible exact L2.Dp.str _ | with_reducible exact L2.Dp.non | walk_at "dp")
local macro_rules | `(tactic| walk_at "shp") => `(tactic| first | with_reducible exact Rd.shaped_pair _ _ | with_reducible exact Rd.shaped_listI _ | with_reducible exact Rd.shaped_nil | (simp only [PySem.SeqAt.shaped, PySem.PyData.canLay0, PySem.PyData.canLayAll0, PySem.PyData.depth, PySem.PyData.depthAll]; rfl))
local macro_rules | `(tactic| walk_at "ty0") => `(tactic| exact Own.ty_int)
local macro_rules | `(tactic| walk_at "sfl") => `(tactic| first | with_unfolding_all exact Nat.le_of_ble_eq_true rfl | ((refine Rd.lput ?_); (repeat refine Rd.lputs ?_); with_unfolding_all exact Nat.le_of_ble_eq_true rfl))
local macro_rules | `(tactic| walk_at "ixn") => `(tactic| first | with_unfolding_all rfl | decide)
local macro_rules | `(tactic| walk_at "bT") => `(tactic| first | (simp only [PySem.PyData.eqv, PySem.PyData.eqvAll, beq_self_eq_true, Bool.and_self]; done) | (exact decide_eq_true rfl) | (simp only [L2.V.int.injEq, L2.V.bl.injEq, decide_eq_true_eq]; omega) | with_unfolding_all rfl | with_reducible assumption | exact decide_eq_true (by walk_at "sc"))
local macro_rules | `(tactic| walk_at "bF") => `(tactic| first | (simp only [← Int.sub_emod, decide_true, Bool.not_true]; done) | (simp only [L2.V.int.injEq, Int.emod_eq_emod_iff_emod_sub_eq_zero, eq_self, decide_true, Bool.true_and, Bool.not_true]; done) | (simp only [Rd.eqv_pairV, Rd.eqv_listI, Rd.eqv_nil, Bool.and_self, Bool.not_true, decide_true]; done) | with_unfolding_all rfl | with_reducible assumption | exact decide_eq_false (by walk_at "sc") | (simp only [L2.V.int.injEq, L2.V.bl.injEq, decide_eq_false_iff_not, Bool.not_eq_false', Bool.not_eq_eq_eq_not, Bool.not_false, decide_eq_true_eq]; omega) | (simp only [L2.V.int.injEq, Bool.and_eq_false_iff, decide_eq_false_iff_not]; first | omega | exact Or.inl (by omega)))

/-! ## the law's source of numbers: two ints in a list -/
section
open PySem L2
/-- what stands in the list -/
def SrcO (o : HO) : Prop := ∃ x y : Int, o = .lst [.int x, .int y] ∧ 0 ≤ x ∧ 0 ≤ y ∧ y < 2147483647
/-- a draw -/
abbrev spDraw : Sp := fun vs H Q _ => ∃ (a : Addr) (o : HO) (m : Int), vs = [.ref a, .int m] ∧ H a = some o ∧ SrcO o ∧ 0 < m ∧ m < 2 ^ 190 ∧
  ∀ (d : Int) (o' : HO), 0 ≤ d → d < m → SrcO o' → Q (.int d) (upd H a o')
/-- a fresh source -/
abbrev spSource (K : PySem.W.Frag) : Sp := fun vs H Q _ => ∃ (a : Addr) (ns : List Int) (t : Int), vs = [.ref a, .int t] ∧ SqL K H a (ns.map V.int) ∧ 0 ≤ t ∧ t < 1000000 ∧
  ∀ (p : Addr) (o : HO), H p = none → SrcO o → Q (.ref p) (upd H p o)
theorem sq_nonneg {y : Int} (h : 0 ≤ y) : 0 ≤ y * y := Int.mul_nonneg h h
theorem atI_map {ns : List Int} {t : Int} (h0 : 0 ≤ t) (h : t < (ns.length : Int)) : ∃ z : Int, atI (ns.map V.int) t = some (.int z) := by
  obtain ⟨j, rfl⟩ : ∃ j : Nat, t = (j : Int) := ⟨t.toNat, by omega⟩
  have hj : j < ns.length := by omega
  exact ⟨ns[j], atI_nat (by rw [List.getElem?_map, List.getElem?_eq_getElem hj]; rfl)⟩
/-- an item of a list of ints at a drawn place: what all its items keep -/
theorem pickI {ns : List Int} {P : Int → Prop} (hP : ∀ n ∈ ns, P n) {d : Int} (h0 : 0 ≤ d) (h : d < (ns.length : Int)) : ∃ n : Int, atI (ns.map V.int) d = some (.int n) ∧ P n := by
  obtain ⟨j, rfl⟩ : ∃ j : Nat, d = (j : Int) := ⟨d.toNat, by omega⟩
  have hj : j < ns.length := by omega
  exact ⟨ns[j], atI_nat (by rw [List.getElem?_map, List.getElem?_eq_getElem hj]; rfl), hP _ (List.getElem_mem hj)⟩
end

/-! ## the head: what the top leaves, looked at in one run -/
namespace Hd
open PySem PySem.Spec PyProof.Rows L2
/-- a def: its place (read off what is looked at), its two names, its text, its defaults -/
structure Df where
  ad : PySem.W.Frag → Addr
  nm : Str
  ql : Str
  st : Stmt
  dv : List V
  kw : List (Str × V)
def Df.see (K : PySem.W.Frag) (d : Df) : He.FnW := match K.lookup (d.ad K) with
  | some ⟨_, _, .func z, _⟩ => some (z.name, z.qualname, z.params, z.body, z.scope, z.globals, z.closure, z.builtins)
  | _ => none
def Df.due (d : Df) : He.FnW := some (d.nm, d.ql, defArgs d.st, .stmts (defBody d.st), defScope d.st, mainGlobals, [], builtinsNs)
def Df.good (K : PySem.W.Frag) (d : Df) : Bool := (match K.lookup (d.ad K) with
  | some ⟨_, _, .func z, _⟩ => (He.dflB K z.defaults d.dv && He.kwdB K z.kwdefaults d.kw) && PySem.W.codeIn K z.code d.ql
  | _ => false) && PySem.W.keepIn K (.ref (d.ad K))
theorem Df.fn {K : PySem.W.Frag} {d : Df} (s : d.see K = d.due) (g : d.good K = true) : ∃ fd, FunD K d.nm d.ql (defArgs d.st) (defBody d.st) (defScope d.st) d.dv d.kw (d.ad K) fd := by
  obtain ⟨g1, g2⟩ := He.ba g
  unfold Df.see at s
  cases e : K.lookup (d.ad K) with
  | none => simp only [e] at g1; cases g1
  | some o =>
    obtain ⟨c, dd, dt, sl⟩ := o
    cases dt with
    | func z =>
      simp only [e] at g1 s
      obtain ⟨g3, g4⟩ := He.ba g1
      obtain ⟨g5, g6⟩ := He.ba g3
      obtain ⟨a1, a2, a3, a4, a5, a6, a7, a8, a9, a10, a11, a12, a13, a14, a15⟩ := z
      simp only [Df.due, Option.some.injEq, Prod.mk.injEq] at s
      obtain ⟨h1, h2, h3, h4, h5, h6, h7, h8⟩ := s
      subst h1 h2 h3 h4 h5 h6 h7 h8
      exact ⟨_, ⟨c, dd, a8, a9, a10, a11, a12, a13, a14, sl, rfl, e, g4, He.dflB_ok g5, He.kwdB_ok g6⟩, g2⟩
    | _ => simp only [e] at g1; cases g1
theorem plain {K : PySem.W.Frag} {x q : Str} {st : Stmt} {f : Addr} {fd : FuncData} (F : FunD K x q (defArgs st) (defBody st) (defScope st) [] [] f fd) : Fun K x q st f fd := by
  obtain ⟨⟨oc, od, dV, kV, doc, pm, an, cdv, ct, sl, e, l, c, hd, _⟩, kp⟩ := F
  rcases hd with ⟨_, z⟩ | ⟨z, _⟩
  · subst z; exact ⟨⟨oc, od, kV, doc, pm, an, cdv, ct, sl, e, l, c⟩, kp⟩
  · exact absurd rfl z
/-! what objects name, layer by layer: no code objects, no classes' bases -/
def refs (o : Obj) : List Addr := match o.cls with
  | .type "code" => []
  | _ => match o.data with
    | .seq its _ => its.toList.flatMap He.refV
    | .dict es _ => es.toList.flatMap fun e => He.refV e.val
    | .func z => He.refV z.code ++ (He.refV z.defaults ++ He.refV z.kwdefaults)
    | .cls c => [c.ns]
    | .fields vs => vs.toList.flatMap He.refV
    | _ => []
def nxt (g : Addr → Option Obj) (l : List Addr) : List Addr := l.flatMap fun a => match g a with
  | some o => refs o
  | none => []
def layers (g : Addr → Option Obj) : Nat → List Addr → List Addr
  | 0, l => l
  | n + 1, l => l ++ layers g n (nxt g l)
def part (n : Nat) (g : Addr → Option Obj) : PySem.W.Frag := He.frG g (cStatics :: layers g n [mainGlobals])
/-- the part, its spine and addresses computed ahead of what follows -/
def pin {α : Type} : PySem.W.Frag → (PySem.W.Frag → α) → α
  | [], k => k []
  | (a, o) :: r, k => HandSHeadRun.frNat a fun a => pin r fun r => k ((a, o) :: r)
theorem pin_eq {α : Type} : ∀ (l : PySem.W.Frag) (k : PySem.W.Frag → α), pin l k = k l
  | [], _ => rfl
  | (a, o) :: r, k => by
    show HandSHeadRun.frNat a (fun a => pin r fun r => k ((a, o) :: r)) = _
    rw [HandSHeadRun.frNat_eq, pin_eq r]
abbrev Al : Type := Bool × List He.FnW × List (Option (List (Option (Str × Int))))
def tell (fn : List Df) (ts : List He.Tab) (ex : PySem.W.Frag → Bool) (K : PySem.W.Frag) : Al := (ex K && fn.all fun d => d.good K, fn.map fun d => d.see K, ts.map fun t => He.dicW K (t.1 K))
def told (fn : List Df) (ts : List He.Tab) (w : World) : Al := (true, fn.map Df.due, ts.map fun t => some (He.keysIn w.params t.2))
def hook (n : Nat) (fn : List Df) (ts : List He.Tab) (ex : PySem.W.Frag → Bool) : PySem.W.Hook where
  α := Al
  obs := fun s => tell fn ts ex (part n s.heap.get?)
  val := fun w => told fn ts w
  says := fun w h => ∃ K : PySem.W.Frag, K.In h ∧ tell fn ts ex K = told fn ts w
  of := fun _ _ e => ⟨_, He.frG_in, e⟩
  keeps := fun _ _ _ ⟨K, hK, c⟩ k => ⟨K, PySem.W.Frag.In.keeps hK k, c⟩
def ob (n : Nat) (fn : List Df) (ts : List He.Tab) (ex : PySem.W.Frag → Bool) (s : PySem.W.SharedT) : Al := pin (part n (HandSHeadRun.getT s)) (tell fn ts ex)
theorem ob_eq {n : Nat} {fn : List Df} {ts : List He.Tab} {ex : PySem.W.Frag → Bool} (s : PySem.W.SharedT) : ob n fn ts ex s = (hook n fn ts ex).obs s.abs := by
  have e : HandSHeadRun.getT s = s.abs.heap.get? := funext (HandSHeadRun.getT_eq s)
  unfold ob
  rw [pin_eq, e]
  rfl
section
variable {fn : List Df} {ts : List He.Tab} {ex : PySem.W.Frag → Bool} {w : World} {K : PySem.W.Frag}
theorem exOf (c : tell fn ts ex K = told fn ts w) : ex K = true := (He.ba (congrArg (fun z : Al => z.1) c)).1
theorem fnOf (c : tell fn ts ex K = told fn ts w) (i : Nat) {d : Df} (h : fn[i]? = some d) : ∃ fd, FunD K d.nm d.ql (defArgs d.st) (defBody d.st) (defScope d.st) d.dv d.kw (d.ad K) fd := by
  have c2 := (He.ba (show (ex K && fn.all fun d => d.good K) = true from congrArg (fun z : Al => z.1) c)).2
  have e : fn.map (fun d => d.see K) = fn.map Df.due := congrArg (fun z : Al => z.2.1) c
  have e2 := congrArg (fun l : List He.FnW => l[i]?) e
  simp only [List.getElem?_map, h, Option.map_some, Option.some.injEq] at e2
  exact Df.fn e2 (List.all_eq_true.mp c2 d (List.mem_of_getElem? h))
theorem tabOf (c : tell fn ts ex K = told fn ts w) (i : Nat) {t : He.Tab} (h : ts[i]? = some t) : ∃ es n, KDict K w (t.1 K) es n := by
  have e : ts.map (fun t => He.dicW K (t.1 K)) = ts.map fun t => some (He.keysIn w.params t.2) := congrArg (fun z : Al => z.2.2) c
  have e2 := congrArg (fun l : List (Option (List (Option (Str × Int)))) => l[i]?) e
  simp only [List.getElem?_map, h, Option.map_some, Option.some.injEq] at e2
  exact He.dicW_ok e2
end
/-! addresses and values off what is looked at -/
def adr (o : Option (Option Value)) : Addr := match o with
  | some (some (.ref a)) => a
  | _ => 0
def opt (o : Option (Option Value)) : Option Value := match o with
  | some v => v
  | none => none
def tok (o : Option (Option Value)) : Tok := match o with
  | some (some (.int _ t)) => t
  | some (some (.str _ t)) => t
  | _ => 0
def rec1 (o : Option (List Value)) : Addr := match o with
  | some (.ref a :: _) => a
  | _ => 0
def recR (o : Option (List Value)) : List Value := match o with
  | some (_ :: r) => r
  | _ => []
def stA (o : Option PySem.W.CFound) : Addr := match o with
  | some (.get _ (.ref a) _ _) => a
  | _ => 0
def stB (o : Option PySem.W.CFound) (C : Addr) : Bool := match o with
  | some (.get (.builtin b) (.ref _) .none (.ref c)) => decide (b = "staticmethod.__get__") && decide (c = C)
  | _ => false
theorem stB_ok {o : Option PySem.W.CFound} {C : Addr} (h : stB o C = true) : o = some (.get (.builtin "staticmethod.__get__") (.ref (stA o)) .none (.ref C)) := by
  unfold stB at h
  split at h
  · obtain ⟨h1, h2⟩ := He.ba h
    rw [of_decide_eq_true h1, of_decide_eq_true h2]
    rfl
  · cases h
def tupB (K : PySem.W.Frag) (a : Addr) (vs : List V) : Bool := match K.lookup a with
  | some ⟨.type c, _, .seq its _, _⟩ => decide (c = "tuple") && (decide (its.size ≤ sizeLine) && He.relAll vs its.toList)
  | _ => false
theorem tupB_ok {K : PySem.W.Frag} {a : Addr} {vs : List V} (h : tupB K a vs = true) : ∀ H : Hp, SqT K H a vs := by
  intro H
  unfold tupB at h
  split at h
  · rename_i c d its n sl e
    obtain ⟨h1, h2⟩ := He.ba h
    obtain ⟨h3, h4⟩ := He.ba h2
    exact .inr ⟨_, its, n, e, congrArg Value.type (of_decide_eq_true h1), rfl, of_decide_eq_true h3, He.relAll_ok h4⟩
  · cases h
def noR (o : Option Value) : Bool := match o with
  | none => true
  | some (.ref _) => true
  | _ => false
theorem noR_ok {o : Option Value} (h : noR o = true) : o = none ∨ ∃ g : Addr, o = some (.ref g) := by
  unfold noR at h
  split at h
  · exact .inl rfl
  · exact .inr ⟨_, rfl⟩
  · cases h
end Hd

namespace Pk33
open PySem L2
def top (i : Nat) : Stmt := PySem.Challenge.pw_ringindexes_k33_sets_refused.main.body.getD i (.Pass ⟨0, 0, 0, 0⟩)
abbrev s_is_whole : Stmt := top 13
abbrev s_is_whole_from : Stmt := top 14
abbrev s_is_ascending : Stmt := top 20
abbrev s_check_parts : Stmt := top 19
abbrev s_least_start : Stmt := top 23
abbrev s_marks_of : Stmt := top 21
abbrev s_shortest : Stmt := top 22
abbrev s_SizeSetu__initu_ : Stmt := inClass (top 18) 0
abbrev s_SizeSet_start : Stmt := inClass (top 18) 2
abbrev s_SizeSet_period : Stmt := inClass (top 18) 3
abbrev s_SizeSetu__containsu_ : Stmt := inClass (top 18) 5
abbrev s_common_parts : Stmt := top 25
abbrev s_set_of : Stmt := top 26
abbrev s_SizeSetu__andu_ : Stmt := inClass (top 18) 6
abbrev s_SizeSetu__oru_ : Stmt := inClass (top 18) 7
abbrev s_SizeSetu__leu_ : Stmt := inClass (top 18) 8
abbrev s_SizeSetu__boolu_ : Stmt := inClass (top 18) 10
abbrev s_SizeSet_least : Stmt := inClass (top 18) 12
abbrev s_SizeSet_none : Stmt := inClass (top 18) 13
abbrev s_SizeSet_full_set : Stmt := inClass (top 18) 14
abbrev s_l_source : Stmt := top 28
abbrev s_l_draw : Stmt := top 29
abbrev s_l_pick : Stmt := top 30
abbrev s_l_told : Stmt := top 31
abbrev s_l_made : Stmt := top 32
abbrev s_l_joined : Stmt := top 33
abbrev s_l_wrong : Stmt := top 34
abbrev s_law : Stmt := top 35
theorem q_early_early_marks : ¬ (("_early" : Str) = "_early_marks") := by decide +kernel
theorem q_early_period : ¬ (("_early" : Str) = "_period") := by decide +kernel
theorem q_early_rest_marks : ¬ (("_early" : Str) = "_rest_marks") := by decide +kernel
theorem q_early_rests : ¬ (("_early" : Str) = "_rests") := by decide +kernel
theorem q_early_start : ¬ (("_early" : Str) = "_start") := by decide +kernel
theorem q_early_least : ¬ (("_early" : Str) = "least") := by decide +kernel
theorem q_early_marks_early : ¬ (("_early_marks" : Str) = "_early") := by decide +kernel
theorem q_early_marks_period : ¬ (("_early_marks" : Str) = "_period") := by decide +kernel
theorem q_early_marks_rest_marks : ¬ (("_early_marks" : Str) = "_rest_marks") := by decide +kernel
theorem q_early_marks_rests : ¬ (("_early_marks" : Str) = "_rests") := by decide +kernel
theorem q_early_marks_start : ¬ (("_early_marks" : Str) = "_start") := by decide +kernel
theorem q_early_marks_least : ¬ (("_early_marks" : Str) = "least") := by decide +kernel
theorem q_period_early : ¬ (("_period" : Str) = "_early") := by decide +kernel
theorem q_period_early_marks : ¬ (("_period" : Str) = "_early_marks") := by decide +kernel
theorem q_period_rest_marks : ¬ (("_period" : Str) = "_rest_marks") := by decide +kernel
theorem q_period_rests : ¬ (("_period" : Str) = "_rests") := by decide +kernel
theorem q_period_start : ¬ (("_period" : Str) = "_start") := by decide +kernel
theorem q_period_least : ¬ (("_period" : Str) = "least") := by decide +kernel
theorem q_rest_marks_early : ¬ (("_rest_marks" : Str) = "_early") := by decide +kernel
theorem q_rest_marks_early_marks : ¬ (("_rest_marks" : Str) = "_early_marks") := by decide +kernel
theorem q_rest_marks_period : ¬ (("_rest_marks" : Str) = "_period") := by decide +kernel
theorem q_rest_marks_rests : ¬ (("_rest_marks" : Str) = "_rests") := by decide +kernel
theorem q_rest_marks_start : ¬ (("_rest_marks" : Str) = "_start") := by decide +kernel
theorem q_rest_marks_least : ¬ (("_rest_marks" : Str) = "least") := by decide +kernel
theorem q_rests_early : ¬ (("_rests" : Str) = "_early") := by decide +kernel
theorem q_rests_early_marks : ¬ (("_rests" : Str) = "_early_marks") := by decide +kernel
theorem q_rests_period : ¬ (("_rests" : Str) = "_period") := by decide +kernel
theorem q_rests_rest_marks : ¬ (("_rests" : Str) = "_rest_marks") := by decide +kernel
theorem q_rests_start : ¬ (("_rests" : Str) = "_start") := by decide +kernel
theorem q_rests_least : ¬ (("_rests" : Str) = "least") := by decide +kernel
theorem q_start_early : ¬ (("_start" : Str) = "_early") := by decide +kernel
theorem q_start_early_marks : ¬ (("_start" : Str) = "_early_marks") := by decide +kernel
theorem q_start_period : ¬ (("_start" : Str) = "_period") := by decide +kernel
theorem q_start_rest_marks : ¬ (("_start" : Str) = "_rest_marks") := by decide +kernel
theorem q_start_rests : ¬ (("_start" : Str) = "_rests") := by decide +kernel
theorem q_start_least : ¬ (("_start" : Str) = "least") := by decide +kernel
theorem q_least_early : ¬ (("least" : Str) = "_early") := by decide +kernel
theorem q_least_early_marks : ¬ (("least" : Str) = "_early_marks") := by decide +kernel
theorem q_least_period : ¬ (("least" : Str) = "_period") := by decide +kernel
theorem q_least_rest_marks : ¬ (("least" : Str) = "_rest_marks") := by decide +kernel
theorem q_least_rests : ¬ (("least" : Str) = "_rests") := by decide +kernel
theorem q_least_start : ¬ (("least" : Str) = "_start") := by decide +kernel
local macro_rules | `(tactic| walk_at "lk") => `(tactic| first | with_unfolding_all rfl | (simp only [List.lookup, L2.putF, beq_iff_eq, beq_self_eq_true, q_early_early_marks, (beq_eq_false_iff_ne.mpr q_early_early_marks), q_early_period, (beq_eq_false_iff_ne.mpr q_early_period), q_early_rest_marks, (beq_eq_false_iff_ne.mpr q_early_rest_marks), q_early_rests, (beq_eq_false_iff_ne.mpr q_early_rests), q_early_start, (beq_eq_false_iff_ne.mpr q_early_start), q_early_least, (beq_eq_false_iff_ne.mpr q_early_least), q_early_marks_early, (beq_eq_false_iff_ne.mpr q_early_marks_early), q_early_marks_period, (beq_eq_false_iff_ne.mpr q_early_marks_period), q_early_marks_rest_marks, (beq_eq_false_iff_ne.mpr q_early_marks_rest_marks), q_early_marks_rests, (beq_eq_false_iff_ne.mpr q_early_marks_rests), q_early_marks_start, (beq_eq_false_iff_ne.mpr q_early_marks_start), q_early_marks_least, (beq_eq_false_iff_ne.mpr q_early_marks_least), q_period_early, (beq_eq_false_iff_ne.mpr q_period_early), q_period_early_marks, (beq_eq_false_iff_ne.mpr q_period_early_marks), q_period_rest_marks, (beq_eq_false_iff_ne.mpr q_period_rest_marks), q_period_rests, (beq_eq_false_iff_ne.mpr q_period_rests), q_period_start, (beq_eq_false_iff_ne.mpr q_period_start), q_period_least, (beq_eq_false_iff_ne.mpr q_period_least), q_rest_marks_early, (beq_eq_false_iff_ne.mpr q_rest_marks_early), q_rest_marks_early_marks, (beq_eq_false_iff_ne.mpr q_rest_marks_early_marks), q_rest_marks_period, (beq_eq_false_iff_ne.mpr q_rest_marks_period), q_rest_marks_rests, (beq_eq_false_iff_ne.mpr q_rest_marks_rests), q_rest_marks_start, (beq_eq_false_iff_ne.mpr q_rest_marks_start), q_rest_marks_least, (beq_eq_false_iff_ne.mpr q_rest_marks_least), q_rests_early, (beq_eq_false_iff_ne.mpr q_rests_early), q_rests_early_marks, (beq_eq_false_iff_ne.mpr q_rests_early_marks), q_rests_period, (beq_eq_false_iff_ne.mpr q_rests_period), q_rests_rest_marks, (beq_eq_false_iff_ne.mpr q_rests_rest_marks), q_rests_start, (beq_eq_false_iff_ne.mpr q_rests_start), q_rests_least, (beq_eq_false_iff_ne.mpr q_rests_least), q_start_early, (beq_eq_false_iff_ne.mpr q_start_early), q_start_early_marks, (beq_eq_false_iff_ne.mpr q_start_early_marks), q_start_period, (beq_eq_false_iff_ne.mpr q_start_period), q_start_rest_marks, (beq_eq_false_iff_ne.mpr q_start_rest_marks), q_start_rests, (beq_eq_false_iff_ne.mpr q_start_rests), q_start_least, (beq_eq_false_iff_ne.mpr q_start_least), q_least_early, (beq_eq_false_iff_ne.mpr q_least_early), q_least_early_marks, (beq_eq_false_iff_ne.mpr q_least_early_marks), q_least_period, (beq_eq_false_iff_ne.mpr q_least_period), q_least_rest_marks, (beq_eq_false_iff_ne.mpr q_least_rest_marks), q_least_rests, (beq_eq_false_iff_ne.mpr q_least_rests), q_least_start, (beq_eq_false_iff_ne.mpr q_least_start)]; first | done | rfl))
structure Adr where
  f_is_whole : Addr
  d_is_whole : FuncData
  f_is_whole_from : Addr
  d_is_whole_from : FuncData
  f_is_ascending : Addr
  d_is_ascending : FuncData
  f_check_parts : Addr
  d_check_parts : FuncData
  f_least_start : Addr
  d_least_start : FuncData
  f_marks_of : Addr
  d_marks_of : FuncData
  f_shortest : Addr
  d_shortest : FuncData
  f_SizeSetu__initu_ : Addr
  d_SizeSetu__initu_ : FuncData
  f_SizeSet_start : Addr
  d_SizeSet_start : FuncData
  f_SizeSet_period : Addr
  d_SizeSet_period : FuncData
  f_SizeSetu__containsu_ : Addr
  d_SizeSetu__containsu_ : FuncData
  f_common_parts : Addr
  d_common_parts : FuncData
  f_set_of : Addr
  d_set_of : FuncData
  f_SizeSetu__andu_ : Addr
  d_SizeSetu__andu_ : FuncData
  f_SizeSetu__oru_ : Addr
  d_SizeSetu__oru_ : FuncData
  f_SizeSetu__leu_ : Addr
  d_SizeSetu__leu_ : FuncData
  f_SizeSetu__boolu_ : Addr
  d_SizeSetu__boolu_ : FuncData
  f_SizeSet_least : Addr
  d_SizeSet_least : FuncData
  f_SizeSet_none : Addr
  d_SizeSet_none : FuncData
  f_SizeSet_full_set : Addr
  d_SizeSet_full_set : FuncData
  f_l_source : Addr
  d_l_source : FuncData
  f_l_draw : Addr
  d_l_draw : FuncData
  f_l_pick : Addr
  d_l_pick : FuncData
  f_l_told : Addr
  d_l_told : FuncData
  f_l_made : Addr
  d_l_made : FuncData
  f_l_joined : Addr
  d_l_joined : FuncData
  f_l_wrong : Addr
  d_l_wrong : FuncData
  f_law : Addr
  d_law : FuncData
  c_SizeSet : Addr
  c_RingError : Addr
  c_NoForm : Addr
  c_NoCounter : Addr
  c_NoScheme : Addr
  c_NoSize : Addr
  c_NoRing : Addr
  c_Outside : Addr
  c_NoRun : Addr
  c_NoSet : Addr
  c_TooLong : Addr
  p_SizeSet_start : Addr
  p_SizeSet_period : Addr
  t_GREATEST_START : Tok
  t_GREATEST_PERIOD : Tok
structure IsC (K : PySem.W.Frag) (C : Addr) : Prop where
  ha : PySem.W.findIn K (.ref C) "__class__" = some (some (.builtin "object.__class__"))
  hn : PySem.W.specialIn K (.builtin "object.__class__") "__get__" = some (some (.builtin "getset_descriptor.__get__"))
  htk : PySem.W.takesIn K (.builtin "object.__class__") = some true
  hm : PySem.W.mroIn K C (.type "object") = some true
theorem ty_own {K : PySem.W.Frag} {H : Hp} {a C dx : Addr} {fs : List (Str × V)} (e : H a = some (.ins C dx fs)) (k : Cls K C) (i : IsC K C) : TyX K H (.ref a) (.ref C) := .base (.ins e k i.ha i.hn i.htk i.hm)
local macro_rules | `(tactic| walk_at "tyx") => `(tactic| first | ((with_reducible apply ty_own); (· walk_at "hp"); (· with_reducible assumption); (· with_reducible assumption)) | fail "tyx")
abbrev R : PySem.W.OpenRow := PySem.W.OpenLaw.row PySem.Challenge.rw_ringindexes_k33_sets_refused
abbrev Px0 (K : PySem.W.Frag) : Prop := (PySem.W.nsIn K mainGlobals "ValueError" = some none) ∧ (PySem.W.nsIn K mainGlobals "abs" = some none) ∧ (PySem.W.nsIn K mainGlobals "all" = some none) ∧ (PySem.W.nsIn K mainGlobals "bool" = some none) ∧ (PySem.W.nsIn K mainGlobals "int" = some none) ∧ (PySem.W.nsIn K mainGlobals "isinstance" = some none) ∧ (PySem.W.nsIn K mainGlobals "len" = some none) ∧ (PySem.W.nsIn K mainGlobals "list" = some none) ∧ (PySem.W.nsIn K mainGlobals "max" = some none) ∧ (PySem.W.nsIn K mainGlobals "min" = some none) ∧ (PySem.W.nsIn K mainGlobals "range" = some none) ∧ (PySem.W.nsIn K mainGlobals "sorted" = some none)
abbrev Px1 (K : PySem.W.Frag) : Prop := (PySem.W.nsIn K mainGlobals "GREATEST_START" = some (some (.int (20000) (Hd.tok (PySem.W.nsIn K mainGlobals "GREATEST_START"))))) ∧ (PySem.W.nsIn K mainGlobals "GREATEST_PERIOD" = some (some (.int (5000) (Hd.tok (PySem.W.nsIn K mainGlobals "GREATEST_PERIOD"))))) ∧ (PySem.W.nsIn K mainGlobals "lcm" = some (some (.builtin "math.lcm"))) ∧ (PySem.W.nsIn K mainGlobals "NoSet" = some (some (.ref (He.ga K "NoSet")))) ∧ (PySem.W.nsIn K mainGlobals "TooLong" = some (some (.ref (He.ga K "TooLong")))) ∧ (PySem.W.nsIn K mainGlobals "SizeSet" = some (some (.ref (He.ga K "SizeSet")))) ∧ (PySem.W.findIn K (.ref (He.ga K "SizeSet")) "_period" = some none) ∧ (PySem.W.findIn K (.ref (He.ga K "SizeSet")) "_start" = some none) ∧ (PySem.W.findIn K (.ref (He.ga K "SizeSet")) "_early" = some none) ∧ (PySem.W.findIn K (.ref (He.ga K "SizeSet")) "_rests" = some none) ∧ (PySem.W.findIn K (.ref (He.ga K "SizeSet")) "_early_marks" = some none) ∧ (PySem.W.findIn K (.ref (He.ga K "SizeSet")) "_rest_marks" = some none)
abbrev Px2 (K : PySem.W.Frag) : Prop := (PySem.W.nsIn K mainGlobals "RingError" = some (some (.ref (He.ga K "RingError")))) ∧ (PySem.W.nsIn K mainGlobals "NoForm" = some (some (.ref (He.ga K "NoForm")))) ∧ (PySem.W.nsIn K mainGlobals "NoCounter" = some (some (.ref (He.ga K "NoCounter")))) ∧ (PySem.W.nsIn K mainGlobals "NoScheme" = some (some (.ref (He.ga K "NoScheme")))) ∧ (PySem.W.nsIn K mainGlobals "NoSize" = some (some (.ref (He.ga K "NoSize")))) ∧ (PySem.W.nsIn K mainGlobals "NoRing" = some (some (.ref (He.ga K "NoRing")))) ∧ (PySem.W.nsIn K mainGlobals "Outside" = some (some (.ref (He.ga K "Outside")))) ∧ (PySem.W.nsIn K mainGlobals "NoRun" = some (some (.ref (He.ga K "NoRun")))) ∧ (PySem.W.nsIn K mainGlobals "is_whole" = some (some (.ref (He.ga K "is_whole")))) ∧ (PySem.W.nsIn K mainGlobals "is_whole_from" = some (some (.ref (He.ga K "is_whole_from")))) ∧ (PySem.W.nsIn K mainGlobals "is_ascending" = some (some (.ref (He.ga K "is_ascending")))) ∧ (PySem.W.nsIn K mainGlobals "check_parts" = some (some (.ref (He.ga K "check_parts"))))
abbrev Px3 (K : PySem.W.Frag) : Prop := (PySem.W.nsIn K mainGlobals "least_start" = some (some (.ref (He.ga K "least_start")))) ∧ (PySem.W.nsIn K mainGlobals "marks_of" = some (some (.ref (He.ga K "marks_of")))) ∧ (PySem.W.nsIn K mainGlobals "shortest" = some (some (.ref (He.ga K "shortest")))) ∧ (PySem.W.nsIn K mainGlobals "common_parts" = some (some (.ref (He.ga K "common_parts")))) ∧ (PySem.W.nsIn K mainGlobals "set_of" = some (some (.ref (He.ga K "set_of")))) ∧ (PySem.W.nsIn K mainGlobals "_law_source" = some (some (.ref (He.ga K "_law_source")))) ∧ (PySem.W.nsIn K mainGlobals "_law_draw" = some (some (.ref (He.ga K "_law_draw")))) ∧ (PySem.W.nsIn K mainGlobals "_law_pick" = some (some (.ref (He.ga K "_law_pick")))) ∧ (PySem.W.nsIn K mainGlobals "_law_told" = some (some (.ref (He.ga K "_law_told")))) ∧ (PySem.W.nsIn K mainGlobals "_law_made" = some (some (.ref (He.ga K "_law_made")))) ∧ (PySem.W.nsIn K mainGlobals "_law_joined" = some (some (.ref (He.ga K "_law_joined")))) ∧ (PySem.W.nsIn K mainGlobals "_law_wrong" = some (some (.ref (He.ga K "_law_wrong"))))
abbrev Px4 (K : PySem.W.Frag) : Prop := (PySem.W.nsIn K mainGlobals "law" = some (some (.ref (He.ga K "law")))) ∧ (PySem.W.findIn K (.ref (He.ga K "SizeSet")) "__init__" = some (some (.ref (He.ma K (He.ga K "SizeSet") "__init__")))) ∧ (PySem.W.findIn K (.ref (He.ga K "SizeSet")) "least" = some (some (.ref (He.ma K (He.ga K "SizeSet") "least")))) ∧ (Hd.stB (PySem.W.findCls K (.ref (He.ga K "SizeSet")) (.type "type") "none") (He.ga K "SizeSet") = true) ∧ (Hd.stB (PySem.W.findCls K (.ref (He.ga K "SizeSet")) (.type "type") "full_set") (He.ga K "SizeSet") = true) ∧ (PySem.W.findIn K (.ref (He.ga K "SizeSet")) "start" = some (some (.ref (He.ma K (He.ga K "SizeSet") "start")))) ∧ (PySem.W.findIn K (.ref (He.ga K "SizeSet")) "period" = some (some (.ref (He.ma K (He.ga K "SizeSet") "period")))) ∧ (PySem.W.findIn K (.ref (He.ga K "SizeSet")) "__contains__" = some (some (.ref (He.ma K (He.ga K "SizeSet") "__contains__")))) ∧ (PySem.W.findIn K (.ref (He.ga K "SizeSet")) (PySem.dunder (Operator.info .BitAnd).2) = some (some (.ref (He.ma K (He.ga K "SizeSet") "__and__")))) ∧ (PySem.W.findIn K (.ref (He.ga K "SizeSet")) (PySem.dunder (Operator.info .BitOr).2) = some (some (.ref (He.ma K (He.ga K "SizeSet") "__or__")))) ∧ (PySem.W.findIn K (.ref (He.ga K "SizeSet")) "__le__" = some (some (.ref (He.ma K (He.ga K "SizeSet") "__le__")))) ∧ (PySem.W.findIn K (.ref (He.ga K "SizeSet")) "__bool__" = some (some (.ref (He.ma K (He.ga K "SizeSet") "__bool__"))))
abbrev Px5 (K : PySem.W.Frag) : Prop := (PySem.W.recIn K (Hd.stA (PySem.W.findCls K (.ref (He.ga K "SizeSet")) (.type "type") "none")) "staticmethod" = some (.ref (Hd.rec1 (PySem.W.recIn K (Hd.stA (PySem.W.findCls K (.ref (He.ga K "SizeSet")) (.type "type") "none")) "staticmethod")) :: (Hd.recR (PySem.W.recIn K (Hd.stA (PySem.W.findCls K (.ref (He.ga K "SizeSet")) (.type "type") "none")) "staticmethod")))) ∧ (PySem.W.recIn K (Hd.stA (PySem.W.findCls K (.ref (He.ga K "SizeSet")) (.type "type") "full_set")) "staticmethod" = some (.ref (Hd.rec1 (PySem.W.recIn K (Hd.stA (PySem.W.findCls K (.ref (He.ga K "SizeSet")) (.type "type") "full_set")) "staticmethod")) :: (Hd.recR (PySem.W.recIn K (Hd.stA (PySem.W.findCls K (.ref (He.ga K "SizeSet")) (.type "type") "full_set")) "staticmethod")))) ∧ (PySem.W.recIn K (He.ma K (He.ga K "SizeSet") "start") "property" = some (.ref (Hd.rec1 (PySem.W.recIn K (He.ma K (He.ga K "SizeSet") "start") "property")) :: (Hd.recR (PySem.W.recIn K (He.ma K (He.ga K "SizeSet") "start") "property")))) ∧ (PySem.W.recIn K (He.ma K (He.ga K "SizeSet") "period") "property" = some (.ref (Hd.rec1 (PySem.W.recIn K (He.ma K (He.ga K "SizeSet") "period") "property")) :: (Hd.recR (PySem.W.recIn K (He.ma K (He.ga K "SizeSet") "period") "property")))) ∧ (PySem.W.excIn K (He.ga K "NoSet") [.type "ValueError", .type "Exception", .type "BaseException", .type "object"] "ValueError.__new__" = true) ∧ (PySem.W.keepIn K (.ref (He.ga K "NoSet")) = true) ∧ (PySem.W.subIn K (.ref (He.ga K "NoSet")) (.type "BaseException") = some true) ∧ (PySem.W.typeIn K (.ref (He.ga K "NoSet")) = some (.type "type")) ∧ (PySem.W.excIn K (He.ga K "TooLong") [.type "ValueError", .type "Exception", .type "BaseException", .type "object"] "ValueError.__new__" = true) ∧ (PySem.W.keepIn K (.ref (He.ga K "TooLong")) = true) ∧ (PySem.W.subIn K (.ref (He.ga K "TooLong")) (.type "BaseException") = some true) ∧ (PySem.W.typeIn K (.ref (He.ga K "TooLong")) = some (.type "type"))
abbrev Px6 (K : PySem.W.Frag) : Prop := (PySem.W.plainGet K (He.ga K "SizeSet") Str.empty = true) ∧ (PySem.W.hasDictIn K (He.ga K "SizeSet") = true) ∧ (PySem.W.plainOver K (He.ga K "SizeSet") = true) ∧ (PySem.W.findIn K (.ref (He.ga K "SizeSet")) "__setattr__" = some (some (.builtin "object.__setattr__"))) ∧ (PySem.W.makesIn K (He.ga K "SizeSet") = true) ∧ (PySem.W.isFn K (.ref (He.ma K (He.ga K "SizeSet") "__init__")) = true) ∧ (PySem.W.keepIn K (.ref (He.ga K "SizeSet")) = true) ∧ (PySem.W.findIn K (.ref (He.ga K "SizeSet")) "__class__" = some (some (.builtin "object.__class__"))) ∧ (PySem.W.mroIn K (He.ga K "SizeSet") (.type "object") = some true) ∧ (PySem.W.specialIn K (.builtin "object.__class__") "__get__" = some (some (.builtin "getset_descriptor.__get__"))) ∧ (PySem.W.takesIn K (.builtin "object.__class__") = some true) ∧ (PySem.W.kitOne K (.type "NoneType") (.ref (He.ga K "SizeSet")) = some false)
abbrev Px7 (K : PySem.W.Frag) : Prop := (PySem.W.kitOne K (.type "int") (.ref (He.ga K "SizeSet")) = some false) ∧ (PySem.W.kitOne K (.type "bool") (.ref (He.ga K "SizeSet")) = some false) ∧ (PySem.W.kitOne K (.type "str") (.ref (He.ga K "SizeSet")) = some false) ∧ (PySem.W.kitOne K (.type "tuple") (.ref (He.ga K "SizeSet")) = some false) ∧ (PySem.W.kitOne K (.type "list") (.ref (He.ga K "SizeSet")) = some false) ∧ (PySem.W.kitOne K (.type "dict") (.ref (He.ga K "SizeSet")) = some false) ∧ (PySem.W.kitOne K (.ref (He.ga K "SizeSet")) (.ref (He.ga K "SizeSet")) = some true) ∧ (PySem.W.isFn K (.ref (He.ma K (He.ga K "SizeSet") "least")) = true) ∧ (PySem.W.readsIn K (He.ga K "SizeSet") (.type "type") = true) ∧ (PySem.W.specialIn K (.ref (He.ga K "SizeSet")) "__getattribute__" = some (some (.builtin "type.__getattribute__"))) ∧ (PySem.W.specialIn K (.ref (He.ma K (He.ga K "SizeSet") "start")) "__get__" = some (some (.builtin "property.__get__"))) ∧ (PySem.W.takesIn K (.ref (He.ma K (He.ga K "SizeSet") "start")) = some true)
abbrev Px8 (K : PySem.W.Frag) : Prop := (PySem.W.specialIn K (.ref (He.ma K (He.ga K "SizeSet") "period")) "__get__" = some (some (.builtin "property.__get__"))) ∧ (PySem.W.takesIn K (.ref (He.ma K (He.ga K "SizeSet") "period")) = some true) ∧ (PySem.W.isFn K (.ref (He.ma K (He.ga K "SizeSet") "__contains__")) = true) ∧ (PySem.W.selfFirst K (He.ga K "SizeSet") = true) ∧ (PySem.W.isFn K (.ref (He.ma K (He.ga K "SizeSet") "__and__")) = true) ∧ (PySem.W.findIn K (.ref (He.ga K "SizeSet")) (dunderR (Operator.info .BitAnd).2) = some (Hd.opt (PySem.W.findIn K (.ref (He.ga K "SizeSet")) (dunderR (Operator.info .BitAnd).2)))) ∧ (Hd.noR (Hd.opt (PySem.W.findIn K (.ref (He.ga K "SizeSet")) (dunderR (Operator.info .BitAnd).2))) = true) ∧ (PySem.W.findIn K (.type "NoneType") (PySem.dunder (Operator.info .BitAnd).2) = some (Hd.opt (PySem.W.findIn K (.type "NoneType") (PySem.dunder (Operator.info .BitAnd).2)))) ∧ (PySem.W.findIn K (.type "NoneType") (dunderR (Operator.info .BitAnd).2) = some (Hd.opt (PySem.W.findIn K (.type "NoneType") (dunderR (Operator.info .BitAnd).2)))) ∧ (PySem.W.subIn K (.type "NoneType") (.ref (He.ga K "SizeSet")) = some false) ∧ (PySem.W.findIn K (.type "int") (PySem.dunder (Operator.info .BitAnd).2) = some (Hd.opt (PySem.W.findIn K (.type "int") (PySem.dunder (Operator.info .BitAnd).2)))) ∧ (PySem.W.findIn K (.type "int") (dunderR (Operator.info .BitAnd).2) = some (Hd.opt (PySem.W.findIn K (.type "int") (dunderR (Operator.info .BitAnd).2))))
abbrev Px9 (K : PySem.W.Frag) : Prop := (PySem.W.subIn K (.type "int") (.ref (He.ga K "SizeSet")) = some false) ∧ (PySem.W.findIn K (.type "bool") (PySem.dunder (Operator.info .BitAnd).2) = some (Hd.opt (PySem.W.findIn K (.type "bool") (PySem.dunder (Operator.info .BitAnd).2)))) ∧ (PySem.W.findIn K (.type "bool") (dunderR (Operator.info .BitAnd).2) = some (Hd.opt (PySem.W.findIn K (.type "bool") (dunderR (Operator.info .BitAnd).2)))) ∧ (PySem.W.subIn K (.type "bool") (.ref (He.ga K "SizeSet")) = some false) ∧ (PySem.W.findIn K (.type "str") (PySem.dunder (Operator.info .BitAnd).2) = some (Hd.opt (PySem.W.findIn K (.type "str") (PySem.dunder (Operator.info .BitAnd).2)))) ∧ (PySem.W.findIn K (.type "str") (dunderR (Operator.info .BitAnd).2) = some (Hd.opt (PySem.W.findIn K (.type "str") (dunderR (Operator.info .BitAnd).2)))) ∧ (PySem.W.subIn K (.type "str") (.ref (He.ga K "SizeSet")) = some false) ∧ (PySem.W.findIn K (.type "tuple") (PySem.dunder (Operator.info .BitAnd).2) = some (Hd.opt (PySem.W.findIn K (.type "tuple") (PySem.dunder (Operator.info .BitAnd).2)))) ∧ (PySem.W.findIn K (.type "tuple") (dunderR (Operator.info .BitAnd).2) = some (Hd.opt (PySem.W.findIn K (.type "tuple") (dunderR (Operator.info .BitAnd).2)))) ∧ (PySem.W.subIn K (.type "tuple") (.ref (He.ga K "SizeSet")) = some false) ∧ (PySem.W.findIn K (.type "list") (PySem.dunder (Operator.info .BitAnd).2) = some (Hd.opt (PySem.W.findIn K (.type "list") (PySem.dunder (Operator.info .BitAnd).2)))) ∧ (PySem.W.findIn K (.type "list") (dunderR (Operator.info .BitAnd).2) = some (Hd.opt (PySem.W.findIn K (.type "list") (dunderR (Operator.info .BitAnd).2))))
abbrev Px10 (K : PySem.W.Frag) : Prop := (PySem.W.subIn K (.type "list") (.ref (He.ga K "SizeSet")) = some false) ∧ (PySem.W.findIn K (.type "dict") (PySem.dunder (Operator.info .BitAnd).2) = some (Hd.opt (PySem.W.findIn K (.type "dict") (PySem.dunder (Operator.info .BitAnd).2)))) ∧ (PySem.W.findIn K (.type "dict") (dunderR (Operator.info .BitAnd).2) = some (Hd.opt (PySem.W.findIn K (.type "dict") (dunderR (Operator.info .BitAnd).2)))) ∧ (PySem.W.subIn K (.type "dict") (.ref (He.ga K "SizeSet")) = some false) ∧ (PySem.W.isFn K (.ref (He.ma K (He.ga K "SizeSet") "__or__")) = true) ∧ (PySem.W.findIn K (.ref (He.ga K "SizeSet")) (dunderR (Operator.info .BitOr).2) = some (Hd.opt (PySem.W.findIn K (.ref (He.ga K "SizeSet")) (dunderR (Operator.info .BitOr).2)))) ∧ (Hd.noR (Hd.opt (PySem.W.findIn K (.ref (He.ga K "SizeSet")) (dunderR (Operator.info .BitOr).2))) = true) ∧ (PySem.W.findIn K (.type "NoneType") (PySem.dunder (Operator.info .BitOr).2) = some (Hd.opt (PySem.W.findIn K (.type "NoneType") (PySem.dunder (Operator.info .BitOr).2)))) ∧ (PySem.W.findIn K (.type "NoneType") (dunderR (Operator.info .BitOr).2) = some (Hd.opt (PySem.W.findIn K (.type "NoneType") (dunderR (Operator.info .BitOr).2)))) ∧ (PySem.W.findIn K (.type "int") (PySem.dunder (Operator.info .BitOr).2) = some (Hd.opt (PySem.W.findIn K (.type "int") (PySem.dunder (Operator.info .BitOr).2)))) ∧ (PySem.W.findIn K (.type "int") (dunderR (Operator.info .BitOr).2) = some (Hd.opt (PySem.W.findIn K (.type "int") (dunderR (Operator.info .BitOr).2)))) ∧ (PySem.W.findIn K (.type "bool") (PySem.dunder (Operator.info .BitOr).2) = some (Hd.opt (PySem.W.findIn K (.type "bool") (PySem.dunder (Operator.info .BitOr).2))))
abbrev Px11 (K : PySem.W.Frag) : Prop := (PySem.W.findIn K (.type "bool") (dunderR (Operator.info .BitOr).2) = some (Hd.opt (PySem.W.findIn K (.type "bool") (dunderR (Operator.info .BitOr).2)))) ∧ (PySem.W.findIn K (.type "str") (PySem.dunder (Operator.info .BitOr).2) = some (Hd.opt (PySem.W.findIn K (.type "str") (PySem.dunder (Operator.info .BitOr).2)))) ∧ (PySem.W.findIn K (.type "str") (dunderR (Operator.info .BitOr).2) = some (Hd.opt (PySem.W.findIn K (.type "str") (dunderR (Operator.info .BitOr).2)))) ∧ (PySem.W.findIn K (.type "tuple") (PySem.dunder (Operator.info .BitOr).2) = some (Hd.opt (PySem.W.findIn K (.type "tuple") (PySem.dunder (Operator.info .BitOr).2)))) ∧ (PySem.W.findIn K (.type "tuple") (dunderR (Operator.info .BitOr).2) = some (Hd.opt (PySem.W.findIn K (.type "tuple") (dunderR (Operator.info .BitOr).2)))) ∧ (PySem.W.findIn K (.type "list") (PySem.dunder (Operator.info .BitOr).2) = some (Hd.opt (PySem.W.findIn K (.type "list") (PySem.dunder (Operator.info .BitOr).2)))) ∧ (PySem.W.findIn K (.type "list") (dunderR (Operator.info .BitOr).2) = some (Hd.opt (PySem.W.findIn K (.type "list") (dunderR (Operator.info .BitOr).2)))) ∧ (PySem.W.findIn K (.type "dict") (PySem.dunder (Operator.info .BitOr).2) = some (Hd.opt (PySem.W.findIn K (.type "dict") (PySem.dunder (Operator.info .BitOr).2)))) ∧ (PySem.W.findIn K (.type "dict") (dunderR (Operator.info .BitOr).2) = some (Hd.opt (PySem.W.findIn K (.type "dict") (dunderR (Operator.info .BitOr).2)))) ∧ (PySem.W.isFn K (.ref (He.ma K (He.ga K "SizeSet") "__le__")) = true) ∧ (PySem.W.isFn K (.ref (He.ma K (He.ga K "SizeSet") "__bool__")) = true) ∧ (PySem.W.notFirst K (He.ga K "SizeSet") (.ref (He.ga K "SizeSet")) = true)
abbrev Px12 (K : PySem.W.Frag) : Prop := (PySem.W.notFirst K (He.ga K "SizeSet") (.type "NoneType") = true) ∧ (PySem.W.notFirst K (He.ga K "SizeSet") (.type "int") = true) ∧ (PySem.W.notFirst K (He.ga K "SizeSet") (.type "bool") = true) ∧ (PySem.W.notFirst K (He.ga K "SizeSet") (.type "str") = true) ∧ (PySem.W.notFirst K (He.ga K "SizeSet") (.type "tuple") = true) ∧ (PySem.W.notFirst K (He.ga K "SizeSet") (.type "list") = true) ∧ (PySem.W.notFirst K (He.ga K "SizeSet") (.type "dict") = true) ∧ (PySem.W.kitOne K (.ref (He.ga K "NoSet")) (.ref (He.ga K "NoForm")) = some false) ∧ (PySem.W.kitOne K (.ref (He.ga K "NoSet")) (.ref (He.ga K "NoCounter")) = some false) ∧ (PySem.W.kitOne K (.ref (He.ga K "NoSet")) (.ref (He.ga K "NoScheme")) = some false) ∧ (PySem.W.kitOne K (.ref (He.ga K "NoSet")) (.ref (He.ga K "NoSize")) = some false) ∧ (PySem.W.kitOne K (.ref (He.ga K "NoSet")) (.ref (He.ga K "NoRing")) = some false)
abbrev Px13 (K : PySem.W.Frag) : Prop := (PySem.W.kitOne K (.ref (He.ga K "NoSet")) (.ref (He.ga K "Outside")) = some false) ∧ (PySem.W.kitOne K (.ref (He.ga K "NoSet")) (.ref (He.ga K "NoRun")) = some false) ∧ (PySem.W.kitOne K (.ref (He.ga K "NoSet")) (.ref (He.ga K "NoSet")) = some true) ∧ (PySem.W.kitOne K (.ref (He.ga K "NoSet")) (.ref (He.ga K "TooLong")) = some false) ∧ (PySem.W.kitOne K (.ref (He.ga K "NoSet")) (.type "ValueError") = some true) ∧ (PySem.W.subIn K (.ref (He.ga K "RingError")) (.type "BaseException") = some true) ∧ (PySem.W.hasDictIn K (He.ga K "RingError") = true) ∧ (PySem.W.typeIn K (.ref (He.ga K "RingError")) = some (.type "type")) ∧ (PySem.W.subIn K (.ref (He.ga K "NoSet")) (.ref (He.ga K "RingError")) = some true) ∧ (PySem.W.findIn K (.ref (He.ga K "NoSet")) "__getattribute__" = some (some (.builtin "BaseException.__getattribute__"))) ∧ (PySem.W.findIn K (.ref (He.ga K "NoSet")) "__getattr__" = some none) ∧ (PySem.W.hasDictIn K (He.ga K "NoSet") = true)
abbrev Px14 (K : PySem.W.Frag) : Prop := (PySem.W.findIn K (.ref (He.ga K "NoSet")) "__class__" = some (some (.builtin "object.__class__"))) ∧ (PySem.W.specialIn K (.builtin "object.__class__") "__get__" = some (some (.builtin "getset_descriptor.__get__"))) ∧ (PySem.W.takesIn K (.builtin "object.__class__") = some true) ∧ (PySem.W.mroIn K (He.ga K "NoSet") (.type "object") = some true) ∧ (PySem.W.kitOne K (.ref (He.ga K "TooLong")) (.ref (He.ga K "NoForm")) = some false) ∧ (PySem.W.kitOne K (.ref (He.ga K "TooLong")) (.ref (He.ga K "NoCounter")) = some false) ∧ (PySem.W.kitOne K (.ref (He.ga K "TooLong")) (.ref (He.ga K "NoScheme")) = some false) ∧ (PySem.W.kitOne K (.ref (He.ga K "TooLong")) (.ref (He.ga K "NoSize")) = some false) ∧ (PySem.W.kitOne K (.ref (He.ga K "TooLong")) (.ref (He.ga K "NoRing")) = some false) ∧ (PySem.W.kitOne K (.ref (He.ga K "TooLong")) (.ref (He.ga K "Outside")) = some false) ∧ (PySem.W.kitOne K (.ref (He.ga K "TooLong")) (.ref (He.ga K "NoRun")) = some false) ∧ (PySem.W.kitOne K (.ref (He.ga K "TooLong")) (.ref (He.ga K "NoSet")) = some false)
abbrev Px15 (K : PySem.W.Frag) : Prop := (PySem.W.kitOne K (.ref (He.ga K "TooLong")) (.ref (He.ga K "TooLong")) = some true) ∧ (PySem.W.kitOne K (.ref (He.ga K "TooLong")) (.type "ValueError") = some true) ∧ (PySem.W.subIn K (.ref (He.ga K "TooLong")) (.ref (He.ga K "RingError")) = some true) ∧ (PySem.W.findIn K (.ref (He.ga K "TooLong")) "__getattribute__" = some (some (.builtin "BaseException.__getattribute__"))) ∧ (PySem.W.findIn K (.ref (He.ga K "TooLong")) "__getattr__" = some none) ∧ (PySem.W.hasDictIn K (He.ga K "TooLong") = true) ∧ (PySem.W.findIn K (.ref (He.ga K "TooLong")) "__class__" = some (some (.builtin "object.__class__"))) ∧ (PySem.W.mroIn K (He.ga K "TooLong") (.type "object") = some true)
def exs (K : PySem.W.Frag) : Bool := decide (Px0 K) && (decide (Px1 K) && (decide (Px2 K) && (decide (Px3 K) && (decide (Px4 K) && (decide (Px5 K) && (decide (Px6 K) && (decide (Px7 K) && (decide (Px8 K) && (decide (Px9 K) && (decide (Px10 K) && (decide (Px11 K) && (decide (Px12 K) && (decide (Px13 K) && (decide (Px14 K) && (decide (Px15 K) && (true))))))))))))))))
def df0 : Hd.Df := ⟨fun K => (He.ga K "is_whole"), "is_whole", "is_whole", s_is_whole, [], []⟩
def df1 : Hd.Df := ⟨fun K => (He.ga K "is_whole_from"), "is_whole_from", "is_whole_from", s_is_whole_from, [], []⟩
def df2 : Hd.Df := ⟨fun K => (He.ga K "is_ascending"), "is_ascending", "is_ascending", s_is_ascending, [], []⟩
def df3 : Hd.Df := ⟨fun K => (He.ga K "check_parts"), "check_parts", "check_parts", s_check_parts, [], []⟩
def df4 : Hd.Df := ⟨fun K => (He.ga K "least_start"), "least_start", "least_start", s_least_start, [], []⟩
def df5 : Hd.Df := ⟨fun K => (He.ga K "marks_of"), "marks_of", "marks_of", s_marks_of, [], []⟩
def df6 : Hd.Df := ⟨fun K => (He.ga K "shortest"), "shortest", "shortest", s_shortest, [], []⟩
def df7 : Hd.Df := ⟨fun K => (He.ma K (He.ga K "SizeSet") "__init__"), "__init__", "SizeSet.__init__", s_SizeSetu__initu_, [], []⟩
def df8 : Hd.Df := ⟨fun K => (Hd.rec1 (PySem.W.recIn K (He.ma K (He.ga K "SizeSet") "start") "property")), "start", "SizeSet.start", s_SizeSet_start, [], []⟩
def df9 : Hd.Df := ⟨fun K => (Hd.rec1 (PySem.W.recIn K (He.ma K (He.ga K "SizeSet") "period") "property")), "period", "SizeSet.period", s_SizeSet_period, [], []⟩
def df10 : Hd.Df := ⟨fun K => (He.ma K (He.ga K "SizeSet") "__contains__"), "__contains__", "SizeSet.__contains__", s_SizeSetu__containsu_, [], []⟩
def df11 : Hd.Df := ⟨fun K => (He.ga K "common_parts"), "common_parts", "common_parts", s_common_parts, [], []⟩
def df12 : Hd.Df := ⟨fun K => (He.ga K "set_of"), "set_of", "set_of", s_set_of, [], []⟩
def df13 : Hd.Df := ⟨fun K => (He.ma K (He.ga K "SizeSet") "__and__"), "__and__", "SizeSet.__and__", s_SizeSetu__andu_, [], []⟩
def df14 : Hd.Df := ⟨fun K => (He.ma K (He.ga K "SizeSet") "__or__"), "__or__", "SizeSet.__or__", s_SizeSetu__oru_, [], []⟩
def df15 : Hd.Df := ⟨fun K => (He.ma K (He.ga K "SizeSet") "__le__"), "__le__", "SizeSet.__le__", s_SizeSetu__leu_, [], []⟩
def df16 : Hd.Df := ⟨fun K => (He.ma K (He.ga K "SizeSet") "__bool__"), "__bool__", "SizeSet.__bool__", s_SizeSetu__boolu_, [], []⟩
def df17 : Hd.Df := ⟨fun K => (He.ma K (He.ga K "SizeSet") "least"), "least", "SizeSet.least", s_SizeSet_least, [], []⟩
def df18 : Hd.Df := ⟨fun K => (Hd.rec1 (PySem.W.recIn K (Hd.stA (PySem.W.findCls K (.ref (He.ga K "SizeSet")) (.type "type") "none")) "staticmethod")), "none", "SizeSet.none", s_SizeSet_none, [], []⟩
def df19 : Hd.Df := ⟨fun K => (Hd.rec1 (PySem.W.recIn K (Hd.stA (PySem.W.findCls K (.ref (He.ga K "SizeSet")) (.type "type") "full_set")) "staticmethod")), "full_set", "SizeSet.full_set", s_SizeSet_full_set, [], []⟩
def df20 : Hd.Df := ⟨fun K => (He.ga K "_law_source"), "_law_source", "_law_source", s_l_source, [], []⟩
def df21 : Hd.Df := ⟨fun K => (He.ga K "_law_draw"), "_law_draw", "_law_draw", s_l_draw, [], []⟩
def df22 : Hd.Df := ⟨fun K => (He.ga K "_law_pick"), "_law_pick", "_law_pick", s_l_pick, [], []⟩
def df23 : Hd.Df := ⟨fun K => (He.ga K "_law_told"), "_law_told", "_law_told", s_l_told, [], []⟩
def df24 : Hd.Df := ⟨fun K => (He.ga K "_law_made"), "_law_made", "_law_made", s_l_made, [], []⟩
def df25 : Hd.Df := ⟨fun K => (He.ga K "_law_joined"), "_law_joined", "_law_joined", s_l_joined, [], []⟩
def df26 : Hd.Df := ⟨fun K => (He.ga K "_law_wrong"), "_law_wrong", "_law_wrong", s_l_wrong, [], []⟩
def df27 : Hd.Df := ⟨fun K => (He.ga K "law"), "law", "law", s_law, [], []⟩
def fns : List Hd.Df := [df0, df1, df2, df3, df4, df5, df6, df7, df8, df9, df10, df11, df12, df13, df14, df15, df16, df17, df18, df19, df20, df21, df22, df23, df24, df25, df26, df27]
def nm0 : List Str := ["RingError", "NoForm", "NoCounter", "NoSize", "NoRing", "Outside", "NoSet", "TooLong", "NoScheme", "NoRun", "is_whole", "is_whole_from", "GREATEST_START", "GREATEST_PERIOD", "SizeSet", "check_parts", "is_ascending", "marks_of", "shortest", "least_start", "set_parts", "common_parts", "set_of", "_law_source", "_law_draw", "_law_pick", "_law_told", "_law_made", "_law_joined", "_law_wrong"]
def loose : List Str := nm0
def tbs : List He.Tab := []
abbrev hk : PySem.W.Hook := Hd.hook 6 fns tbs exs
def ob (s : PySem.W.SharedT) : Hd.Al := Hd.ob 6 fns tbs exs s
theorem ob_is (s : PySem.W.SharedT) : ob s = hk.obs s.abs := Hd.ob_eq s
theorem run_false (w : World) : HandSHeadRun.RunEqI R (PySem.W.view R.prog [0, 35]) hk ob 200000 loose (w.withFollow "special-get-raises" false) := by unfold HandSHeadRun.RunEqI; kernel_rfl
theorem run_true (w : World) : HandSHeadRun.RunEqI R (PySem.W.view R.prog [0, 35]) hk ob 200000 loose (w.withFollow "special-get-raises" true) := by unfold HandSHeadRun.RunEqI; kernel_rfl
theorem run (w : World) : HandSHeadRun.RunEqI R (PySem.W.view R.prog [0, 35]) hk ob 200000 loose w := PySem.W.byRow2 "special-get-raises" (P := fun w => HandSHeadRun.RunEqI R (PySem.W.view R.prog [0, 35]) hk ob 200000 loose w) run_false run_true w
structure Txt (w : World) (K : PySem.W.Frag) (mg : Str → Option Value) (A : Adr) : Prop where
  n_ValueError : mg "ValueError" = none
  n_abs : mg "abs" = none
  n_all : mg "all" = none
  n_bool : mg "bool" = none
  n_int : mg "int" = none
  n_isinstance : mg "isinstance" = none
  n_len : mg "len" = none
  n_list : mg "list" = none
  n_max : mg "max" = none
  n_min : mg "min" = none
  n_range : mg "range" = none
  n_sorted : mg "sorted" = none
  m_GREATEST_START : mg "GREATEST_START" = some (.int (20000) A.t_GREATEST_START)
  m_GREATEST_PERIOD : mg "GREATEST_PERIOD" = some (.int (5000) A.t_GREATEST_PERIOD)
  m_lcm : mg "lcm" = some (.builtin "math.lcm")
  m_NoSet : mg "NoSet" = some (.ref A.c_NoSet)
  x_NoSet : PySem.W.excIn K A.c_NoSet [.type "ValueError", .type "Exception", .type "BaseException", .type "object"] "ValueError.__new__" = true
  kp_NoSet : PySem.W.keepIn K (.ref A.c_NoSet) = true
  sb_NoSet : PySem.W.subIn K (.ref A.c_NoSet) (.type "BaseException") = some true
  tc_NoSet : PySem.W.typeIn K (.ref A.c_NoSet) = some (.type "type")
  m_TooLong : mg "TooLong" = some (.ref A.c_TooLong)
  x_TooLong : PySem.W.excIn K A.c_TooLong [.type "ValueError", .type "Exception", .type "BaseException", .type "object"] "ValueError.__new__" = true
  kp_TooLong : PySem.W.keepIn K (.ref A.c_TooLong) = true
  sb_TooLong : PySem.W.subIn K (.ref A.c_TooLong) (.type "BaseException") = some true
  tc_TooLong : PySem.W.typeIn K (.ref A.c_TooLong) = some (.type "type")
  m_SizeSet : mg "SizeSet" = some (.ref A.c_SizeSet)
  k_SizeSet : Cls K A.c_SizeSet
  n_SizeSet_period : NoAttr K A.c_SizeSet "_period"
  n_SizeSet_start : NoAttr K A.c_SizeSet "_start"
  n_SizeSet_early : NoAttr K A.c_SizeSet "_early"
  n_SizeSet_rests : NoAttr K A.c_SizeSet "_rests"
  n_SizeSet_early_marks : NoAttr K A.c_SizeSet "_early_marks"
  n_SizeSet_rest_marks : NoAttr K A.c_SizeSet "_rest_marks"
  K_SizeSet : Mk K A.c_SizeSet A.f_SizeSetu__initu_
  i_SizeSet : IsC K A.c_SizeSet
  kt_NoneType_SizeSet : PySem.W.kitOne K (.type "NoneType") (.ref A.c_SizeSet) = some false
  kt_int_SizeSet : PySem.W.kitOne K (.type "int") (.ref A.c_SizeSet) = some false
  kt_bool_SizeSet : PySem.W.kitOne K (.type "bool") (.ref A.c_SizeSet) = some false
  kt_str_SizeSet : PySem.W.kitOne K (.type "str") (.ref A.c_SizeSet) = some false
  kt_tuple_SizeSet : PySem.W.kitOne K (.type "tuple") (.ref A.c_SizeSet) = some false
  kt_list_SizeSet : PySem.W.kitOne K (.type "list") (.ref A.c_SizeSet) = some false
  kt_dict_SizeSet : PySem.W.kitOne K (.type "dict") (.ref A.c_SizeSet) = some false
  kt_SizeSet_SizeSet : PySem.W.kitOne K (.ref A.c_SizeSet) (.ref A.c_SizeSet) = some true
  m_RingError : mg "RingError" = some (.ref A.c_RingError)
  m_NoForm : mg "NoForm" = some (.ref A.c_NoForm)
  m_NoCounter : mg "NoCounter" = some (.ref A.c_NoCounter)
  m_NoScheme : mg "NoScheme" = some (.ref A.c_NoScheme)
  m_NoSize : mg "NoSize" = some (.ref A.c_NoSize)
  m_NoRing : mg "NoRing" = some (.ref A.c_NoRing)
  m_Outside : mg "Outside" = some (.ref A.c_Outside)
  m_NoRun : mg "NoRun" = some (.ref A.c_NoRun)
  m_is_whole : mg "is_whole" = some (.ref A.f_is_whole)
  F_is_whole : Fun K "is_whole" "is_whole" s_is_whole A.f_is_whole A.d_is_whole
  b_is_whole : Binds K A.d_is_whole ["thing"] []
  m_is_whole_from : mg "is_whole_from" = some (.ref A.f_is_whole_from)
  F_is_whole_from : Fun K "is_whole_from" "is_whole_from" s_is_whole_from A.f_is_whole_from A.d_is_whole_from
  b_is_whole_from : Binds K A.d_is_whole_from ["thing", "low", "high"] []
  m_is_ascending : mg "is_ascending" = some (.ref A.f_is_ascending)
  F_is_ascending : Fun K "is_ascending" "is_ascending" s_is_ascending A.f_is_ascending A.d_is_ascending
  b_is_ascending : Binds K A.d_is_ascending ["thing", "low", "high"] []
  m_check_parts : mg "check_parts" = some (.ref A.f_check_parts)
  F_check_parts : Fun K "check_parts" "check_parts" s_check_parts A.f_check_parts A.d_check_parts
  b_check_parts : Binds K A.d_check_parts ["early", "start", "period", "rests"] []
  m_least_start : mg "least_start" = some (.ref A.f_least_start)
  F_least_start : Fun K "least_start" "least_start" s_least_start A.f_least_start A.d_least_start
  b_least_start : Binds K A.d_least_start ["early_marks", "rest_marks"] []
  m_marks_of : mg "marks_of" = some (.ref A.f_marks_of)
  F_marks_of : Fun K "marks_of" "marks_of" s_marks_of A.f_marks_of A.d_marks_of
  b_marks_of : Binds K A.d_marks_of ["numbers", "end"] []
  m_shortest : mg "shortest" = some (.ref A.f_shortest)
  F_shortest : Fun K "shortest" "shortest" s_shortest A.f_shortest A.d_shortest
  b_shortest : Binds K A.d_shortest ["marks"] []
  F_SizeSetu__initu_ : Fun K "__init__" "SizeSet.__init__" s_SizeSetu__initu_ A.f_SizeSetu__initu_ A.d_SizeSetu__initu_
  b_SizeSetu__initu_ : Binds K A.d_SizeSetu__initu_ ["self", "early", "start", "period", "rests"] []
  F_SizeSet_start : Fun K "start" "SizeSet.start" s_SizeSet_start A.f_SizeSet_start A.d_SizeSet_start
  b_SizeSet_start : Binds K A.d_SizeSet_start ["self"] []
  F_SizeSet_period : Fun K "period" "SizeSet.period" s_SizeSet_period A.f_SizeSet_period A.d_SizeSet_period
  b_SizeSet_period : Binds K A.d_SizeSet_period ["self"] []
  F_SizeSetu__containsu_ : Fun K "__contains__" "SizeSet.__contains__" s_SizeSetu__containsu_ A.f_SizeSetu__containsu_ A.d_SizeSetu__containsu_
  b_SizeSetu__containsu_ : Binds K A.d_SizeSetu__containsu_ ["self", "x"] []
  m_common_parts : mg "common_parts" = some (.ref A.f_common_parts)
  F_common_parts : Fun K "common_parts" "common_parts" s_common_parts A.f_common_parts A.d_common_parts
  b_common_parts : Binds K A.d_common_parts ["one", "other"] []
  m_set_of : mg "set_of" = some (.ref A.f_set_of)
  F_set_of : Fun K "set_of" "set_of" s_set_of A.f_set_of A.d_set_of
  b_set_of : Binds K A.d_set_of ["numbers", "start", "period"] []
  F_SizeSetu__andu_ : Fun K "__and__" "SizeSet.__and__" s_SizeSetu__andu_ A.f_SizeSetu__andu_ A.d_SizeSetu__andu_
  b_SizeSetu__andu_ : Binds K A.d_SizeSetu__andu_ ["self", "other"] []
  F_SizeSetu__oru_ : Fun K "__or__" "SizeSet.__or__" s_SizeSetu__oru_ A.f_SizeSetu__oru_ A.d_SizeSetu__oru_
  b_SizeSetu__oru_ : Binds K A.d_SizeSetu__oru_ ["self", "other"] []
  F_SizeSetu__leu_ : Fun K "__le__" "SizeSet.__le__" s_SizeSetu__leu_ A.f_SizeSetu__leu_ A.d_SizeSetu__leu_
  b_SizeSetu__leu_ : Binds K A.d_SizeSetu__leu_ ["self", "other"] []
  F_SizeSetu__boolu_ : Fun K "__bool__" "SizeSet.__bool__" s_SizeSetu__boolu_ A.f_SizeSetu__boolu_ A.d_SizeSetu__boolu_
  b_SizeSetu__boolu_ : Binds K A.d_SizeSetu__boolu_ ["self"] []
  M_SizeSet_least : Meth K A.c_SizeSet "least" A.f_SizeSet_least
  F_SizeSet_least : Fun K "least" "SizeSet.least" s_SizeSet_least A.f_SizeSet_least A.d_SizeSet_least
  b_SizeSet_least : Binds K A.d_SizeSet_least ["self"] []
  S_SizeSet_none : Sta.SMet K A.c_SizeSet "none" A.f_SizeSet_none
  F_SizeSet_none : Fun K "none" "SizeSet.none" s_SizeSet_none A.f_SizeSet_none A.d_SizeSet_none
  b_SizeSet_none : Binds K A.d_SizeSet_none [] []
  S_SizeSet_full_set : Sta.SMet K A.c_SizeSet "full_set" A.f_SizeSet_full_set
  F_SizeSet_full_set : Fun K "full_set" "SizeSet.full_set" s_SizeSet_full_set A.f_SizeSet_full_set A.d_SizeSet_full_set
  b_SizeSet_full_set : Binds K A.d_SizeSet_full_set [] []
  m_l_source : mg "_law_source" = some (.ref A.f_l_source)
  F_l_source : Fun K "_law_source" "_law_source" s_l_source A.f_l_source A.d_l_source
  b_l_source : Binds K A.d_l_source ["_law_script", "_law_turn"] []
  m_l_draw : mg "_law_draw" = some (.ref A.f_l_draw)
  F_l_draw : Fun K "_law_draw" "_law_draw" s_l_draw A.f_l_draw A.d_l_draw
  b_l_draw : Binds K A.d_l_draw ["_law_source_here", "_law_amount"] []
  m_l_pick : mg "_law_pick" = some (.ref A.f_l_pick)
  F_l_pick : Fun K "_law_pick" "_law_pick" s_l_pick A.f_l_pick A.d_l_pick
  b_l_pick : Binds K A.d_l_pick ["_law_source_here", "_law_items"] []
  m_l_told : mg "_law_told" = some (.ref A.f_l_told)
  F_l_told : Fun K "_law_told" "_law_told" s_l_told A.f_l_told A.d_l_told
  b_l_told : Binds K A.d_l_told ["_law_e"] []
  m_l_made : mg "_law_made" = some (.ref A.f_l_made)
  F_l_made : Fun K "_law_made" "_law_made" s_l_made A.f_l_made A.d_l_made
  b_l_made : Binds K A.d_l_made ["_law_early", "_law_start", "_law_period", "_law_rests"] []
  m_l_joined : mg "_law_joined" = some (.ref A.f_l_joined)
  F_l_joined : Fun K "_law_joined" "_law_joined" s_l_joined A.f_l_joined A.d_l_joined
  b_l_joined : Binds K A.d_l_joined ["_law_way", "_law_one", "_law_other"] []
  m_l_wrong : mg "_law_wrong" = some (.ref A.f_l_wrong)
  F_l_wrong : Fun K "_law_wrong" "_law_wrong" s_l_wrong A.f_l_wrong A.d_l_wrong
  b_l_wrong : Binds K A.d_l_wrong ["_law_source_here"] []
  m_law : mg "law" = some (.ref A.f_law)
  F_law : Fun K "law" "law" s_law A.f_law A.d_law
  b_law : Binds K A.d_law ["_law_script"] []
  R_SizeSet_start : PropOf K A.c_SizeSet "start" A.p_SizeSet_start A.f_SizeSet_start
  R_SizeSet_period : PropOf K A.c_SizeSet "period" A.p_SizeSet_period A.f_SizeSet_period
  O_SizeSetu__containsu__1 : Own.Sp1 K A.c_SizeSet "__contains__" A.f_SizeSetu__containsu_
  O_SizeSetu__andu__S : Own.Bin K A.c_SizeSet A.f_SizeSetu__andu_ .BitAnd
  O_SizeSetu__andu__V : Own.BinA K A.c_SizeSet A.f_SizeSetu__andu_ .BitAnd
  O_SizeSetu__oru__S : Own.Bin K A.c_SizeSet A.f_SizeSetu__oru_ .BitOr
  O_SizeSetu__oru__V : Own.BinA K A.c_SizeSet A.f_SizeSetu__oru_ .BitOr
  O_SizeSetu__leu__1 : Own.Sp1 K A.c_SizeSet "__le__" A.f_SizeSetu__leu_
  O_SizeSetu__boolu__1 : Own.Sp1 K A.c_SizeSet "__bool__" A.f_SizeSetu__boolu_
  nf_SizeSet_SizeSet : PySem.W.notFirst K A.c_SizeSet (.ref A.c_SizeSet) = true
  nf_NoneType_SizeSet : PySem.W.notFirst K A.c_SizeSet (.type "NoneType") = true
  nf_int_SizeSet : PySem.W.notFirst K A.c_SizeSet (.type "int") = true
  nf_bool_SizeSet : PySem.W.notFirst K A.c_SizeSet (.type "bool") = true
  nf_str_SizeSet : PySem.W.notFirst K A.c_SizeSet (.type "str") = true
  nf_tuple_SizeSet : PySem.W.notFirst K A.c_SizeSet (.type "tuple") = true
  nf_list_SizeSet : PySem.W.notFirst K A.c_SizeSet (.type "list") = true
  nf_dict_SizeSet : PySem.W.notFirst K A.c_SizeSet (.type "dict") = true
  kt_NoSet_in_NoForm : PySem.W.kitOne K (.ref A.c_NoSet) (.ref A.c_NoForm) = some false
  kt_NoSet_in_NoCounter : PySem.W.kitOne K (.ref A.c_NoSet) (.ref A.c_NoCounter) = some false
  kt_NoSet_in_NoScheme : PySem.W.kitOne K (.ref A.c_NoSet) (.ref A.c_NoScheme) = some false
  kt_NoSet_in_NoSize : PySem.W.kitOne K (.ref A.c_NoSet) (.ref A.c_NoSize) = some false
  kt_NoSet_in_NoRing : PySem.W.kitOne K (.ref A.c_NoSet) (.ref A.c_NoRing) = some false
  kt_NoSet_in_Outside : PySem.W.kitOne K (.ref A.c_NoSet) (.ref A.c_Outside) = some false
  kt_NoSet_in_NoRun : PySem.W.kitOne K (.ref A.c_NoSet) (.ref A.c_NoRun) = some false
  kt_NoSet_in_NoSet : PySem.W.kitOne K (.ref A.c_NoSet) (.ref A.c_NoSet) = some true
  kt_NoSet_in_TooLong : PySem.W.kitOne K (.ref A.c_NoSet) (.ref A.c_TooLong) = some false
  kt_NoSet_in_VE : PySem.W.kitOne K (.ref A.c_NoSet) (.type "ValueError") = some true
  xm_NoSet : PySem.W.exmOne K (.ref A.c_NoSet) (.ref A.c_RingError) = some true
  ec_NoSet : L2.ExcC K A.c_NoSet
  kt_TooLong_in_NoForm : PySem.W.kitOne K (.ref A.c_TooLong) (.ref A.c_NoForm) = some false
  kt_TooLong_in_NoCounter : PySem.W.kitOne K (.ref A.c_TooLong) (.ref A.c_NoCounter) = some false
  kt_TooLong_in_NoScheme : PySem.W.kitOne K (.ref A.c_TooLong) (.ref A.c_NoScheme) = some false
  kt_TooLong_in_NoSize : PySem.W.kitOne K (.ref A.c_TooLong) (.ref A.c_NoSize) = some false
  kt_TooLong_in_NoRing : PySem.W.kitOne K (.ref A.c_TooLong) (.ref A.c_NoRing) = some false
  kt_TooLong_in_Outside : PySem.W.kitOne K (.ref A.c_TooLong) (.ref A.c_Outside) = some false
  kt_TooLong_in_NoRun : PySem.W.kitOne K (.ref A.c_TooLong) (.ref A.c_NoRun) = some false
  kt_TooLong_in_NoSet : PySem.W.kitOne K (.ref A.c_TooLong) (.ref A.c_NoSet) = some false
  kt_TooLong_in_TooLong : PySem.W.kitOne K (.ref A.c_TooLong) (.ref A.c_TooLong) = some true
  kt_TooLong_in_VE : PySem.W.kitOne K (.ref A.c_TooLong) (.type "ValueError") = some true
  xm_TooLong : PySem.W.exmOne K (.ref A.c_TooLong) (.ref A.c_RingError) = some true
  ec_TooLong : L2.ExcC K A.c_TooLong

theorem SfreeR {H H' : Hp} {b : Nat} (h : H' b = none) (f : L2.Same H H') : H b = none := Sfree f h
/-- an object that is no integer: by its kind alone -/
def Odd (K : PySem.W.Frag) (H : Hp) (y : V) : Prop := ∃ t, TyX K H y t ∧ (PySem.W.kitOne K t (.type "int") = some false ∨ (PySem.W.kitOne K t (.type "int") = some true ∧ PySem.W.kitOne K t (.type "bool") = some true))
theorem Odd.same {K : PySem.W.Frag} {H H' : Hp} {y : V} (S : Same H H') (h : Odd K H y) : Odd K H' y := by
  obtain ⟨t, a, b⟩ := h
  exact ⟨t, Rd.tyx_same S a, b⟩
theorem oddV_odd {K : PySem.W.Frag} {H : Hp} {y : V} (h : Rd.OddV H y) : Odd K H y := by
  rcases h with h | ⟨b, rfl⟩
  · obtain ⟨t, hT, ty⟩ := h.ty (K := K)
    exact ⟨_, ty, .inl (Rd.kit_TS_int t hT)⟩
  · exact ⟨_, L2.TyX.base (L2.TyOf.bl _), .inr ⟨Rd.kit_bool_int, Rd.kit_bool_bool⟩⟩
local macro_rules | `(tactic| walk_at "tyx") => `(tactic| with_reducible assumption)
local macro_rules | `(tactic| walk_at "nn") => `(tactic| first | ((with_reducible apply SfreeR); (· with_reducible assumption); (· walk_at "frm")) | fail "nn")
local macro_rules | `(tactic| walk_at "odv") => `(tactic| first | with_reducible assumption | ((with_reducible apply Rd.OddV.sameR); (· with_reducible assumption); (· walk_at "frm")) | fail "odv")

theorem small9 {n : Nat} (h : n ≤ 90000) : n < PySem.sizeLine := Nat.lt_of_le_of_lt h (by decide +kernel)

/-! ## periodic rows: the least period, the least start (mathematics of sets of sizes) -/
namespace M31
/-- a period of a row of truths -/
def Per (f : Int → Bool) (k : Int) : Prop := ∀ n, f (n + k) = f n
theorem Per.neg {f : Int → Bool} {k : Int} (h : Per f k) : Per f (-k) := fun n => by
  have := h (n + -k)
  rw [show n + -k + k = n by omega] at this
  exact this.symm
theorem Per.add {f : Int → Bool} {j k : Int} (h : Per f j) (g : Per f k) : Per f (j + k) := fun n => by
  rw [show n + (j + k) = n + j + k by omega, g, h]
theorem Per.zero {f : Int → Bool} : Per f 0 := fun n => by rw [Int.add_zero]
theorem Per.nmul {f : Int → Bool} {k : Int} (h : Per f k) : ∀ c : Nat, Per f ((c : Int) * k)
  | 0 => by simpa using Per.zero
  | c + 1 => by
    have := (Per.nmul h c).add h
    rwa [show ((c + 1 : Nat) : Int) * k = (c : Int) * k + k by rw [Int.natCast_add, Int.add_mul]; simp]
theorem Per.mul {f : Int → Bool} {k : Int} (h : Per f k) (c : Int) : Per f (c * k) := by
  rcases Int.le_total 0 c with g | g
  · obtain ⟨m, rfl⟩ := Int.eq_ofNat_of_zero_le g
    exact h.nmul m
  · obtain ⟨m, hm⟩ := Int.eq_ofNat_of_zero_le (show 0 ≤ -c by omega)
    have := (h.nmul m).neg
    rwa [← hm, ← Int.neg_mul, Int.neg_neg] at this
theorem Per.mod {f : Int → Bool} {j k : Int} (h : Per f j) (g : Per f k) : Per f (k % j) := by
  have e : k % j = k + -(k / j) * j := by
    have := Int.mul_ediv_add_emod k j
    rw [Int.neg_mul, Int.mul_comm (k / j) j]; omega
  rw [e]
  exact g.add (h.mul _)
/-- with a period there is one that divides and is no longer -/
theorem Per.dvd {f : Int → Bool} {p : Int} (hp : Per f p) : ∀ (m : Nat) (j : Int), j.toNat ≤ m → 1 ≤ j → Per f j → ∃ d, 1 ≤ d ∧ d ≤ j ∧ p % d = 0 ∧ Per f d
  | 0, j, hm, h1, _ => by omega
  | m + 1, j, hm, h1, hj => by
    rcases Decidable.em (p % j = 0) with z | z
    · exact ⟨j, h1, Int.le_refl _, z, hj⟩
    · have a := Int.emod_nonneg p (show j ≠ 0 by omega)
      have b := Int.emod_lt_of_pos p (show 0 < j by omega)
      obtain ⟨d, d1, d2, d3, d4⟩ := Per.dvd hp m (p % j) (by omega) (by omega) (hj.mod hp)
      exact ⟨d, d1, by omega, d3, d4⟩
/-- the value at a place of any window as long as the period -/
theorem Per.at {f : Int → Bool} {k : Int} (h : Per f k) (k1 : 1 ≤ k) (lo n : Int) : ∃ m, lo ≤ m ∧ m < lo + k ∧ f m = f n ∧ ∃ c, m = n + c * k := by
  refine ⟨lo + (n - lo) % k, ?_, ?_, ?_, ?_⟩
  · have := Int.emod_nonneg (n - lo) (show k ≠ 0 by omega); omega
  · have := Int.emod_lt_of_pos (n - lo) (show 0 < k by omega); omega
  · have e : lo + (n - lo) % k = n + -((n - lo) / k) * k := by
      have := Int.mul_ediv_add_emod (n - lo) k
      rw [Int.neg_mul, Int.mul_comm ((n - lo) / k) k]; omega
    rw [e]
    exact h.mul _ n
  · exact ⟨-((n - lo) / k), by
      have := Int.mul_ediv_add_emod (n - lo) k
      rw [Int.neg_mul, Int.mul_comm ((n - lo) / k) k]; omega⟩
/-- what holds in a window holds everywhere -/
theorem Per.win {f : Int → Bool} {p j lo : Int} (hp : Per f p) (p1 : 1 ≤ p) (h : ∀ n, lo ≤ n → n < lo + p → f (n + j) = f n) : Per f j := fun n => by
  obtain ⟨m, m1, m2, e, c, rfl⟩ := hp.at p1 lo n
  have := h _ m1 m2
  rw [e, show n + c * p + j = n + j + c * p by omega, hp.mul c] at this
  exact this
/-- the least period -/
structure Least (f : Int → Bool) (k : Int) : Prop where
  pos : 1 ≤ k
  per : Per f k
  min : ∀ j, 1 ≤ j → Per f j → k ≤ j
/-- least among those that divide a period: least of all -/
theorem Least.of {f : Int → Bool} {p k : Int} (hp : Per f p) (k1 : 1 ≤ k) (hk : Per f k) (h : ∀ j, 1 ≤ j → p % j = 0 → Per f j → k ≤ j) : Least f k :=
  ⟨k1, hk, fun j j1 hj => by
    obtain ⟨d, d1, d2, d3, d4⟩ := Per.dvd hp j.toNat j (Nat.le_refl _) j1 hj
    have := h d d1 d3 d4
    omega⟩
/-- two periodic rows that agree in a window long enough: the same least period, the same row -/
theorem Least.same {f g : Int → Bool} {k l lo hi : Int} (hf : Least f k) (hg : Least g l) (w : lo + k + l ≤ hi) (h : ∀ n, lo ≤ n → n < hi → f n = g n) : k = l ∧ ∀ n, f n = g n := by
  have fl : Per f l := hf.per.win hf.pos (lo := lo) fun n n1 n2 => by
    have a := hg.pos
    rw [h _ (by omega) (by omega), h n n1 (by omega), hg.per]
  have gk : Per g k := hg.per.win hg.pos (lo := lo) fun n n1 n2 => by
    have a := hf.pos
    rw [← h _ (by omega) (by omega), ← h n n1 (by omega), hf.per]
  have e : k = l := Int.le_antisymm (hf.min l hg.pos fl) (hg.min k hf.pos gk)
  subst e
  refine ⟨rfl, fun n => ?_⟩
  obtain ⟨m, m1, m2, em, c, rfl⟩ := hf.per.at hf.pos lo n
  have a := hf.pos
  have b := h _ m1 (by omega)
  rw [hf.per.mul c, hg.per.mul c] at b
  exact b
/-- ascending within bounds -/
def Asc (hi : Int) : Int → List Int → Prop
  | _, [] => True
  | lo, x :: r => lo ≤ x ∧ x ≤ hi ∧ Asc hi (x + 1) r
theorem Asc.mem {hi : Int} : ∀ {l : List Int} {lo : Int}, Asc hi lo l → ∀ x ∈ l, lo ≤ x ∧ x ≤ hi
  | y :: r, lo, ⟨h1, h2, h3⟩, x, hx => by
    rcases List.mem_cons.mp hx with rfl | hx
    · exact ⟨h1, h2⟩
    · have := Asc.mem h3 x hx; omega
/-- the ascending list of what a test takes -/
def up (f : Int → Bool) : Nat → Int → List Int
  | 0, _ => []
  | n + 1, lo => if f lo then lo :: up f n (lo + 1) else up f n (lo + 1)
theorem up_mem {f : Int → Bool} : ∀ {n : Nat} {lo x : Int}, x ∈ up f n lo ↔ lo ≤ x ∧ x < lo + n ∧ f x = true
  | 0, lo, x => by simp [up]; omega
  | n + 1, lo, x => by
    unfold up
    by_cases h : f lo = true
    · rw [if_pos h, List.mem_cons, up_mem]
      constructor
      · rintro (rfl | ⟨a, b, c⟩)
        · exact ⟨Int.le_refl _, by omega, h⟩
        · exact ⟨by omega, by omega, c⟩
      · rintro ⟨a, b, c⟩
        rcases Decidable.em (x = lo) with e | e
        · exact .inl e
        · exact .inr ⟨by omega, by omega, c⟩
    · rw [if_neg h, up_mem]
      constructor
      · rintro ⟨a, b, c⟩; exact ⟨by omega, by omega, c⟩
      · rintro ⟨a, b, c⟩
        rcases Decidable.em (x = lo) with e | e
        · subst e; exact absurd c h
        · exact ⟨by omega, by omega, c⟩
/-- an ascending list is what its membership takes -/
theorem Asc.up {f : Int → Bool} : ∀ {n : Nat} {lo : Int} {l : List Int}, Asc (lo + n - 1) lo l → (∀ x, lo ≤ x → x < lo + n → (f x = true ↔ x ∈ l)) → M31.up f n lo = l
  | 0, lo, [], _, _ => rfl
  | 0, lo, x :: r, ⟨h1, h2, _⟩, _ => by omega
  | n + 1, lo, l, ha, hm => by
    unfold M31.up
    cases l with
    | nil =>
      have z : f lo ≠ true := fun e => by have := (hm lo (Int.le_refl _) (by omega)).mp e; cases this
      rw [if_neg z]
      exact Asc.up (l := []) trivial fun x a b => hm x (by omega) (by omega)
    | cons y r =>
      obtain ⟨h1, h2, h3⟩ := ha
      rcases Decidable.em (y = lo) with e | e
      · subst e
        rw [if_pos ((hm y (Int.le_refl _) (by omega)).mpr List.mem_cons_self)]
        congr 1
        refine Asc.up (by rw [show y + 1 + (n : Int) - 1 = y + ((n + 1 : Nat) : Int) - 1 by omega]; exact h3) fun x a b => ?_
        rw [hm x (by omega) (by omega), List.mem_cons]
        constructor
        · rintro (rfl | h)
          · omega
          · exact h
        · exact .inr
      · have z : f lo ≠ true := fun e' => by
          rcases List.mem_cons.mp ((hm lo (Int.le_refl _) (by omega)).mp e') with q | q
          · exact e q.symm
          · have := h3.mem _ q; omega
        rw [if_neg z]
        refine Asc.up (l := y :: r) ⟨by omega, by omega, by rw [show lo + 1 + (n : Int) - 1 = lo + ((n + 1 : Nat) : Int) - 1 by omega]; exact h3⟩ fun x a b => ?_
        exact hm x (by omega) (by omega)
/-- the parts of a set of sizes -/
structure Rows where
  E : List Int
  s : Int
  p : Int
  R : List Int
structure Rows.Ok (w : Rows) : Prop where
  s1 : 1 ≤ w.s
  p1 : 1 ≤ w.p
  hE : Asc (w.s - 1) 1 w.E
  hR : Asc (w.p - 1) 0 w.R
def Rows.r (w : Rows) (n : Int) : Bool := decide (n % w.p ∈ w.R)
def Rows.has (w : Rows) (n : Int) : Bool := if n < w.s then decide (n ∈ w.E) else w.r n
theorem Rows.per (w : Rows) : Per w.r w.p := fun n => by
  show decide _ = decide _
  rw [Int.add_emod_right]
theorem Rows.has_r {w : Rows} {n : Int} (h : w.s ≤ n) : w.has n = w.r n := if_neg (by omega)
/-- the parts as a made set keeps them -/
structure Canon (w t : Rows) : Prop where
  s1 : 1 ≤ t.s
  s2 : t.s ≤ w.s
  k : Least w.r t.p
  kp : t.p ≤ w.p
  st : ∀ n, t.s ≤ n → n < w.s → w.has n = w.r n
  s3 : t.s = 1 ∨ w.has (t.s - 1) ≠ w.r (t.s - 1)
  E : t.E = w.E.filter (fun x => decide (x < t.s))
  R : t.R = w.R.filter (fun x => decide (x < t.p))
section
variable {w t : Rows}
theorem Canon.from (c : Canon w t) {n : Int} (h : t.s ≤ n) : w.has n = w.r n := by
  rcases Decidable.em (n < w.s) with g | g
  · exact c.st n h g
  · exact Rows.has_r (by omega)
theorem Canon.r (c : Canon w t) (n : Int) : t.r n = w.r n := by
  have k1 := c.k.pos
  have a := Int.emod_nonneg n (show t.p ≠ 0 by omega)
  have b := Int.emod_lt_of_pos n (show 0 < t.p by omega)
  have e : w.r (n % t.p) = w.r n := by
    have z := Int.mul_ediv_add_emod n t.p
    have y := c.k.per.mul (n / t.p) (n % t.p)
    rw [show n % t.p + n / t.p * t.p = n by rw [Int.mul_comm]; omega] at y
    exact y.symm
  have e2 : w.r (n % t.p) = decide (n % t.p ∈ w.R) := by
    show decide (n % t.p % w.p ∈ w.R) = _
    rw [Int.emod_eq_of_lt a (by have := c.kp; omega)]
  rw [← e, e2]
  show decide (n % t.p ∈ t.R) = _
  rw [c.R, decide_eq_decide, List.mem_filter]
  exact ⟨And.left, fun h => ⟨h, decide_eq_true b⟩⟩
theorem Canon.has (c : Canon w t) (n : Int) : t.has n = w.has n := by
  unfold Rows.has
  rcases Decidable.em (n < t.s) with h | h
  · have := c.s2
    rw [if_pos h, if_pos (show n < w.s by omega), c.E, decide_eq_decide, List.mem_filter]
    exact ⟨And.left, fun g => ⟨g, decide_eq_true h⟩⟩
  · rw [if_neg h, c.r n]
    exact (c.from (by omega)).symm
/-- it follows its period from its start on -/
theorem Canon.follows (c : Canon w t) {n : Int} (h : t.s ≤ n) : w.has n = w.has (n + t.p) := by
  have := c.k.pos
  rw [c.from h, c.from (by omega), c.k.per n]
/-- no shorter period -/
theorem Canon.short (o : w.Ok) (c : Canon w t) {j hi : Int} (j1 : 1 ≤ j) (j2 : j < t.p) (hh : w.s + w.p ≤ hi) : ∃ n, w.s ≤ n ∧ n < hi ∧ w.has n ≠ w.has (n + j) := by
  refine Classical.byContradiction fun z => ?_
  have hp : Per w.r j := w.per.win o.p1 (lo := w.s) fun n n1 n2 => by
    refine Decidable.byContradiction fun y => z ⟨n, n1, by omega, ?_⟩
    rw [Rows.has_r n1, Rows.has_r (by omega)]
    exact fun e => y e.symm
  have := c.k.min j j1 hp
  omega
/-- no earlier start -/
theorem Canon.early (c : Canon w t) (h : 1 < t.s) : w.has (t.s - 1) ≠ w.has (t.s - 1 + t.p) := by
  have := c.k.pos
  rw [c.from (n := t.s - 1 + t.p) (by omega), c.k.per]
  rcases c.s3 with z | z
  · omega
  · exact z
theorem Asc.lo {hi : Int} : ∀ {l : List Int} {a b : Int}, a ≤ b → Asc hi b l → Asc hi a l
  | [], _, _, _, _ => trivial
  | _ :: _, _, _, h, ⟨h1, h2, h3⟩ => ⟨by omega, h2, h3⟩
/-- of an ascending list those below a bound -/
theorem Asc.filter {hi m : Int} : ∀ {l : List Int} {lo : Int}, Asc hi lo l → Asc (m - 1) lo (l.filter (fun x => decide (x < m)))
  | [], _, _ => trivial
  | x :: r, lo, ⟨h1, h2, h3⟩ => by
    by_cases h : x < m
    · rw [List.filter_cons_of_pos (by simpa using h)]
      exact ⟨h1, by omega, Asc.filter h3⟩
    · rw [List.filter_cons_of_neg (by simpa using h)]
      exact Asc.lo (by omega) (Asc.filter h3)
theorem Asc.ext {hi lo : Int} {l l' : List Int} (h : Asc hi lo l) (h' : Asc hi lo l') (m : ∀ x, x ∈ l ↔ x ∈ l') : l = l' := by
  rcases Int.lt_or_le hi lo with g | g
  · have z : ∀ {q : List Int}, Asc hi lo q → q = [] := fun {q} hq => by
      cases q with
      | nil => rfl
      | cons x r => obtain ⟨a, b, _⟩ := hq; omega
    rw [z h, z h']
  · have e : lo + ((hi - lo + 1).toNat : Int) - 1 = hi := by omega
    have a := Asc.up (f := fun x => decide (x ∈ l)) (n := (hi - lo + 1).toNat) (lo := lo) (l := l) (by rw [e]; exact h) (fun x _ _ => by simp)
    have b := Asc.up (f := fun x => decide (x ∈ l)) (n := (hi - lo + 1).toNat) (lo := lo) (l := l') (by rw [e]; exact h') (fun x _ _ => by simpa using m x)
    rw [← a, b]
/-- two made sets that agree in a window long enough are the same -/
theorem Canon.ext {w' t' : Rows} (o : w.Ok) (o' : w'.Ok) (c : Canon w t) (c' : Canon w' t') {hi : Int} (h1 : w.s + w.p + w'.p ≤ hi) (h2 : w'.s + w.p + w'.p ≤ hi) (h : ∀ n, 1 ≤ n → n < hi → w.has n = w'.has n) :
    t.E = t'.E ∧ t.s = t'.s ∧ t.p = t'.p ∧ t.R = t'.R := by
  have s1 := o.s1
  have s1' := o'.s1
  have k1 := c.kp
  have k1' := c'.kp
  obtain ⟨ep, er⟩ := c.k.same c'.k (lo := if w.s ≤ w'.s then w'.s else w.s) (hi := hi) (by split <;> omega) fun n n1 n2 => by
    have a1 : w.s ≤ n := by split at n1 <;> omega
    have a2 : w'.s ≤ n := by split at n1 <;> omega
    rw [← Rows.has_r a1, ← Rows.has_r a2]
    exact h n (by omega) n2
  have es : t.s = t'.s := by
    have x1 := c.s1
    have x2 := c.s2
    have x1' := c'.s1
    have x2' := c'.s2
    have p1 := o.p1
    have p1' := o'.p1
    rcases Int.lt_trichotomy t.s t'.s with g | g | g
    · exfalso
      rcases c'.s3 with z | z
      · omega
      · apply z
        rw [← h _ (by omega) (by omega), c.from (by omega), er]
    · exact g
    · exfalso
      rcases c.s3 with z | z
      · omega
      · apply z
        rw [h _ (by omega) (by omega), c'.from (by omega), er]
  have x1 := c.s1
  have x2 := c.s2
  have x2' := c'.s2
  refine ⟨?_, es, ep, ?_⟩
  · rw [c.E, c'.E, es]
    refine Asc.ext (hi := t'.s - 1) (lo := 1) o.hE.filter o'.hE.filter fun x => ?_
    rw [List.mem_filter, List.mem_filter]
    have key : ∀ x, 1 ≤ x → x < t'.s → (x ∈ w.E ↔ x ∈ w'.E) := fun x a b => by
      have p1 := o.p1
      have p1' := o'.p1
      have z := h x a (by omega)
      unfold Rows.has at z
      rw [if_pos (by omega), if_pos (by omega)] at z
      exact decide_eq_decide.mp z
    constructor
    · rintro ⟨a, b⟩
      exact ⟨(key x (o.hE.mem x a).1 (of_decide_eq_true b)).mp a, b⟩
    · rintro ⟨a, b⟩
      exact ⟨(key x (o'.hE.mem x a).1 (of_decide_eq_true b)).mpr a, b⟩
  · rw [c.R, c'.R, ep]
    refine Asc.ext (hi := t'.p - 1) (lo := 0) o.hR.filter o'.hR.filter fun x => ?_
    rw [List.mem_filter, List.mem_filter]
    have key : ∀ x, 0 ≤ x → x < t'.p → (x ∈ w.R ↔ x ∈ w'.R) := fun x a b => by
      have z := er x
      unfold Rows.r at z
      rw [Int.emod_eq_of_lt a (by omega), Int.emod_eq_of_lt a (by omega)] at z
      exact decide_eq_decide.mp z
    constructor
    · rintro ⟨a, b⟩
      exact ⟨(key x (o.hR.mem x a).1 (of_decide_eq_true b)).mp a, b⟩
    · rintro ⟨a, b⟩
      exact ⟨(key x (o'.hR.mem x a).1 (of_decide_eq_true b)).mpr a, b⟩
end
end M31

open M31 (Rows Canon Asc Least Per)
/-- the marks of a list of numbers below an end -/
def mk (xs : List Int) (n : Nat) : List Bool := (List.range n).map fun (i : Nat) => decide ((i : Int) ∈ xs)
theorem mk_len (xs : List Int) (n : Nat) : (mk xs n).length = n := by unfold mk; rw [List.length_map, List.length_range]
theorem mk_nil (n : Nat) : mk [] n = List.replicate n false := by
  unfold mk
  rw [List.eq_replicate_iff]
  refine ⟨by rw [List.length_map, List.length_range], fun b hb => ?_⟩
  obtain ⟨i, _, rfl⟩ := List.mem_map.mp hb
  simp
theorem mk_at {xs : List Int} {n i : Nat} (h : i < n) : (mk xs n)[i]? = some (decide ((i : Int) ∈ xs)) := by
  unfold mk
  rw [List.getElem?_map, List.getElem?_range h]; rfl
theorem mk_set {xs : List Int} {n j : Nat} (h : j < n) : (mk xs n).set j true = mk (xs ++ [(j : Int)]) n := by
  refine List.ext_getElem? fun i => ?_
  rcases Nat.lt_or_ge i n with g | g
  · rw [mk_at g, List.getElem?_set]
    by_cases e : j = i
    · subst e
      rw [if_pos rfl, if_pos (by rw [mk_len]; exact h)]
      simp
    · rw [if_neg e, mk_at g]
      have : ¬ (i : Int) = (j : Int) := by omega
      simp [this]
  · rw [List.getElem?_eq_none (by rw [List.length_set, mk_len]; exact g), List.getElem?_eq_none (by rw [mk_len]; exact g)]
theorem ixN_of {n : Nat} {k : Int} (h0 : 0 ≤ k) (h1 : k < (n : Int)) : ixN n k = some k.toNat := by
  unfold L2.ixN
  rw [if_pos h0, if_pos h1]
theorem drop_atI {l : List Int} {i : Nat} {x : Int} (h : l[i]? = some x) : l.drop i = x :: l.drop (i + 1) := by
  obtain ⟨hi, e⟩ := List.getElem?_eq_some_iff.mp h
  rw [List.drop_eq_getElem_cons hi, e]
theorem map_rep {k : Nat} {l : List Bool} : (List.replicate k (l.map V.bl)).flatten = ((List.replicate k l).flatten).map V.bl := by
  rw [List.map_flatten, List.map_replicate]
/-- a part that makes the row by being repeated -/
def IsP (bs : List Bool) (k : Nat) : Prop := bs.length % k = 0 ∧ (List.replicate (bs.length / k) (bs.take k)).flatten = bs
local macro_rules | `(tactic| walk_at "dp") => `(tactic| first | ((with_reducible apply Rd.dp_listB); walk_at "hpl") | fail "dp")
local macro_rules | `(tactic| walk_at "shp") => `(tactic| first | exact Rd.shaped_listB _ | fail "shp")
local macro_rules | `(tactic| walk_at "sz") => `(tactic| exact small9 (by (try simp only [List.length_map, List.length_replicate] at *); omega))
local macro_rules | `(tactic| walk_at "kit") => `(tactic| first | with_reducible exact Rd.kt_list_list | fail "kit")
theorem div_nat {n j : Nat} : (((n : Nat) : Int) / (j : Int)).toNat = n / j := by
  rw [← Int.natCast_ediv, Int.toNat_natCast]
theorem rep_ok {bs : List Bool} {j : Nat} (b2 : bs.length ≤ 20000) : ((bs.take j).map V.bl).length * ((((bs.map V.bl).length : Nat) : Int) / (j : Int)).toNat ≤ PySem.sizeLine := by
  rw [div_nat, List.length_map, List.length_map]
  have a : (bs.take j).length ≤ j := List.length_take_le j bs
  have b := Nat.mul_le_mul_right (bs.length / j) a
  have c := Nat.mul_div_le bs.length j
  exact Nat.le_of_lt (small9 (by omega))
theorem rep_q {bs : List Bool} {j : Nat} (b2 : bs.length ≤ 20000) : 0 ≤ (((bs.map V.bl).length : Nat) : Int) / (j : Int) ∧ (((bs.map V.bl).length : Nat) : Int) / (j : Int) ≤ 20000 := by
  rw [List.length_map, ← Int.natCast_ediv]
  have := Nat.div_le_self bs.length j
  generalize bs.length / j = q at *
  omega
theorem isP_iff {bs : List Bool} {j : Nat} : IsP bs j ↔ (V.int ((((bs.map V.bl).length : Nat) : Int) % (j : Int)) = V.int 0) ∧
    PySem.PyData.eqv (.list (((List.replicate ((((bs.map V.bl).length : Nat) : Int) / (j : Int)).toNat (bs.take j)).flatten).map PySem.PyData.bool)) (.list (bs.map PySem.PyData.bool)) = true := by
  rw [Rd.eqv_listB, div_nat, List.length_map, decide_eq_true_eq, V.int.injEq, ← Int.natCast_emod]
  unfold IsP
  exact and_congr (by omega) Iff.rfl
theorem isP_len {bs : List Bool} (h : 1 ≤ bs.length) : IsP bs bs.length := by
  refine ⟨Nat.mod_self _, ?_⟩
  rw [Nat.div_self (by omega), List.take_length]
  simp
local macro_rules | `(tactic| walk_at "rep") => `(tactic| exact rep_ok (by with_reducible assumption))

theorem bat {bs : List Bool} {i : Int} (h0 : 0 ≤ i) (h1 : i < (bs.length : Int)) : ∃ x, atI (bs.map V.bl) i = some (.bl x) ∧ bs[i.toNat]? = some x := by
  obtain ⟨j, rfl⟩ := Int.eq_ofNat_of_zero_le h0
  have hj : j < bs.length := by omega
  refine ⟨bs[j], atI_nat (by rw [List.getElem?_map, List.getElem?_eq_getElem hj]; rfl), ?_⟩
  rw [Int.toNat_natCast, List.getElem?_eq_getElem hj]
theorem bmod {bs : List Bool} {i : Int} (h0 : 0 ≤ i) (h1 : 1 ≤ bs.length) : ∃ x, atI (bs.map V.bl) (i % (((bs.map V.bl).length : Nat) : Int)) = some (.bl x) ∧ bs[i.toNat % bs.length]? = some x := by
  obtain ⟨j, rfl⟩ := Int.eq_ofNat_of_zero_le h0
  rw [List.length_map, ← Int.natCast_emod]
  have hj : j % bs.length < bs.length := Nat.mod_lt _ (by omega)
  refine ⟨bs[j % bs.length], atI_nat (by rw [List.getElem?_map, List.getElem?_eq_getElem hj]; rfl), ?_⟩
  rw [Int.toNat_natCast, List.getElem?_eq_getElem hj]
theorem flat_at {l : List Bool} (h : 1 ≤ l.length) : ∀ (c i : Nat), i < c * l.length → (List.replicate c l).flatten[i]? = l[i % l.length]?
  | 0, i, hi => by omega
  | c + 1, i, hi => by
    rw [List.replicate_succ, List.flatten_cons]
    rcases Nat.lt_or_ge i l.length with g | g
    · rw [List.getElem?_append_left g, Nat.mod_eq_of_lt g]
    · rw [List.getElem?_append_right g, flat_at h c (i - l.length) (by rw [Nat.add_mul] at hi; omega)]
      congr 1
      conv => rhs; rw [show i = i - l.length + l.length by omega, Nat.add_mod_right]
theorem flat_len {l : List Bool} (c : Nat) : ((List.replicate c l).flatten).length = c * l.length := by
  induction c with
  | zero => simp
  | succ c ih => rw [List.replicate_succ, List.flatten_cons, List.length_append, ih, Nat.add_mul]; omega
/-- a part that makes the row: every place is that of its rest -/
theorem isP_at {bs : List Bool} {k : Nat} (k1 : 1 ≤ k) (k2 : k ≤ bs.length) : IsP bs k ↔ bs.length % k = 0 ∧ ∀ i, i < bs.length → bs[i]? = bs[i % k]? := by
  have tl : (bs.take k).length = k := by rw [List.length_take]; omega
  unfold IsP
  refine and_congr_right fun d => ?_
  have e : bs.length / k * k = bs.length := Nat.div_mul_cancel (Nat.dvd_of_mod_eq_zero d)
  have key : ∀ i, i < bs.length → ((List.replicate (bs.length / k) (bs.take k)).flatten)[i]? = bs[i % k]? := fun i hi => by
    rw [flat_at (by omega) _ _ (by rw [tl, e]; exact hi), tl, List.getElem?_take_of_lt (Nat.mod_lt _ (by omega))]
  constructor
  · intro h i hi
    rw [← key i hi, h]
  · intro h
    refine List.ext_getElem? fun i => ?_
    rcases Nat.lt_or_ge i bs.length with g | g
    · rw [key i g, h i g]
    · rw [List.getElem?_eq_none g, List.getElem?_eq_none (by rw [flat_len, tl, e]; exact g)]
theorem mk_r {w : Rows} (ok : w.Ok) {i : Nat} (h : (i : Int) < w.p) : (mk w.R w.p.toNat)[i]? = some (w.r i) := by
  rw [mk_at (by omega)]
  unfold Rows.r
  rw [Int.emod_eq_of_lt (by omega) h]
theorem isP_per {w : Rows} (ok : w.Ok) {k : Nat} (k1 : 1 ≤ k) (k2 : (k : Int) ≤ w.p) (d : w.p % (k : Int) = 0) : (∀ i : Nat, (i : Int) < w.p → w.r i = w.r ((i % k : Nat) : Int)) ↔ Per w.r k := by
  have p1 := ok.p1
  constructor
  · intro h
    refine w.per.win ok.p1 (lo := 0) fun n n0 n1 => ?_
    obtain ⟨i, rfl⟩ := Int.eq_ofNat_of_zero_le n0
    obtain ⟨p, hp⟩ := Int.eq_ofNat_of_zero_le (show 0 ≤ w.p by omega)
    have e1 : w.r ((i : Int) + k) = w.r (((i + k) % p : Nat) : Int) := by
      unfold Rows.r
      rw [hp, Int.natCast_emod, Int.natCast_add, Int.emod_emod]
    have dk : k ∣ p := by
      rw [hp, ← Int.natCast_emod] at d
      exact Nat.dvd_of_mod_eq_zero (by omega)
    rw [e1, h _ (by rw [hp]; have := Nat.mod_lt (i + k) (show 0 < p by omega); omega), h i (by omega), Nat.mod_mod_of_dvd _ dk, Nat.add_mod_right]
  · intro h i hi
    have y := h.mul ((i / k : Nat) : Int) ((i % k : Nat) : Int)
    rw [show ((i % k : Nat) : Int) + ((i / k : Nat) : Int) * (k : Int) = (i : Int) by
      have := Nat.mod_add_div i k
      rw [← Int.natCast_mul, ← Int.natCast_add, Nat.mul_comm (i / k) k, this]] at y
    exact y
theorem canon_of {w : Rows} (ok : w.Ok) {k : Nat} {st : Int} (k1 : 1 ≤ k) (k2 : k ≤ (mk w.R w.p.toNat).length) (hP : IsP (mk w.R w.p.toNat) k) (hmin : ∀ j, 1 ≤ j → j < k → ¬ IsP (mk w.R w.p.toNat) j)
    (s1 : 1 ≤ st) (s2 : st ≤ ((mk w.E w.s.toNat).length : Int)) (hs : ∀ n : Nat, st ≤ (n : Int) → n < (mk w.E w.s.toNat).length → (mk w.E w.s.toNat)[n]? = ((mk w.R w.p.toNat).take k)[n % ((mk w.R w.p.toNat).take k).length]?)
    (hb : st = 1 ∨ (mk w.E w.s.toNat)[(st - 1).toNat]? ≠ ((mk w.R w.p.toNat).take k)[(st - 1).toNat % ((mk w.R w.p.toNat).take k).length]?) :
    Canon w ⟨w.E.filter (fun x => decide (x < st)), st, (k : Int), w.R.filter (fun x => decide (x < (k : Int)))⟩ := by
  have p1 := ok.p1
  have w1 := ok.s1
  have bl : (mk w.R w.p.toNat).length = w.p.toNat := mk_len _ _
  have el : (mk w.E w.s.toNat).length = w.s.toNat := mk_len _ _
  have tl : ((mk w.R w.p.toNat).take k).length = k := by rw [List.length_take]; omega
  have pk : ∀ j : Nat, 1 ≤ j → (j : Int) ≤ w.p → (IsP (mk w.R w.p.toNat) j ↔ w.p % (j : Int) = 0 ∧ Per w.r j) := fun j j1 j2 => by
    rw [isP_at j1 (by omega), bl]
    have e : w.p.toNat % j = 0 ↔ w.p % (j : Int) = 0 := by
      have this : ((w.p.toNat : Nat) : Int) = w.p := by omega
      have q : w.p % (j : Int) = ((w.p.toNat % j : Nat) : Int) := by rw [Int.natCast_emod, this]
      rw [q]
      constructor
      · intro h; rw [h]; rfl
      · intro h; exact_mod_cast h
    rw [e]
    refine and_congr_right fun d => ?_
    rw [← isP_per ok j1 j2 d]
    constructor
    · intro h i hi
      have := h i (by omega)
      rw [mk_r ok hi, mk_r ok (by have := Nat.mod_lt i (show 0 < j by omega); omega)] at this
      exact Option.some.inj this
    · intro h i hi
      rw [mk_r ok (by omega), mk_r ok (by have := Nat.mod_lt i (show 0 < j by omega); omega), h i (by omega)]
  obtain ⟨hd, hper⟩ := (pk k k1 (by omega)).mp hP
  have rr : ∀ n : Nat, ((mk w.R w.p.toNat).take k)[n % ((mk w.R w.p.toNat).take k).length]? = some (w.r n) := fun n => by
    have hn := Nat.mod_lt n (show 0 < k by omega)
    rw [tl, List.getElem?_take_of_lt hn, mk_r ok (by omega)]
    congr 1
    have y := hper.mul ((n / k : Nat) : Int) ((n % k : Nat) : Int)
    rw [show ((n % k : Nat) : Int) + ((n / k : Nat) : Int) * (k : Int) = (n : Int) by
      have := Nat.mod_add_div n k
      rw [← Int.natCast_mul, ← Int.natCast_add, Nat.mul_comm (n / k) k, this]] at y
    exact y.symm
  have hh : ∀ n : Nat, (n : Int) < w.s → (mk w.E w.s.toNat)[n]? = some (w.has n) := fun n hn => by
    rw [mk_at (by omega)]
    unfold Rows.has
    rw [if_pos hn]
  refine ⟨s1, by show st ≤ w.s; omega, Least.of w.per (by show (1 : Int) ≤ k; omega) hper fun j j1 d hj => ?_, by show (k : Int) ≤ w.p; omega, fun n n1 n2 => ?_, ?_, rfl, rfl⟩
  · refine Classical.byContradiction fun z => ?_
    have z : j < (k : Int) := by have : ¬ (k : Int) ≤ j := z; omega
    obtain ⟨i, rfl⟩ := Int.eq_ofNat_of_zero_le (show 0 ≤ j by omega)
    exact hmin i (by omega) (by omega) ((pk i (by omega) (by omega)).mpr ⟨d, hj⟩)
  · have n1 : st ≤ n := n1
    obtain ⟨m, rfl⟩ := Int.eq_ofNat_of_zero_le (show 0 ≤ n by omega)
    have := hs m n1 (by omega)
    rw [hh m n2, rr m] at this
    exact Option.some.inj this
  · rcases hb with h | h
    · exact .inl h
    · right
      rw [hh _ (by omega), rr, show (((st - 1).toNat : Nat) : Int) = st - 1 by omega] at h
      exact fun z => h (congrArg some z)

/-- a set's fields -/
def fZ (k st : Int) (ea re em rm : Addr) : List (Str × V) := [("_period", .int k), ("_start", .int st), ("_early", .ref ea), ("_rests", .ref re), ("_early_marks", .ref em), ("_rest_marks", .ref rm)]
theorem fZ_1 (k st : Int) (ea re em rm : Addr) : (fZ k st ea re em rm).lookup ("_period" : Str) = some (V.int k) := by unfold fZ; walk_at "lk"
theorem fZ_2 (k st : Int) (ea re em rm : Addr) : (fZ k st ea re em rm).lookup ("_start" : Str) = some (V.int st) := by unfold fZ; walk_at "lk"
theorem fZ_3 (k st : Int) (ea re em rm : Addr) : (fZ k st ea re em rm).lookup ("_early" : Str) = some (V.ref ea) := by unfold fZ; walk_at "lk"
theorem fZ_4 (k st : Int) (ea re em rm : Addr) : (fZ k st ea re em rm).lookup ("_rests" : Str) = some (V.ref re) := by unfold fZ; walk_at "lk"
theorem fZ_5 (k st : Int) (ea re em rm : Addr) : (fZ k st ea re em rm).lookup ("_early_marks" : Str) = some (V.ref em) := by unfold fZ; walk_at "lk"
theorem fZ_6 (k st : Int) (ea re em rm : Addr) : (fZ k st ea re em rm).lookup ("_rest_marks" : Str) = some (V.ref rm) := by unfold fZ; walk_at "lk"
def fZ2 (k st : Int) : List (Str × V) := [("_period", .int k), ("_start", .int st)]
def fZ3 (k st : Int) (ea : Addr) : List (Str × V) := [("_period", .int k), ("_start", .int st), ("_early", .ref ea)]
theorem fZ2_put (k st : Int) : putF "_start" (.int st) (putF "_period" (.int k) []) = fZ2 k st := by unfold fZ2; simp only [L2.putF, q_period_start, if_false]
theorem fZ3_put (k st : Int) (ea : Addr) : putF "_early" (.ref ea) (fZ2 k st) = fZ3 k st ea := by unfold fZ3 fZ2; simp only [L2.putF, q_period_early, q_start_early, if_false]
theorem fZ_put (k st : Int) (ea re em rm : Addr) : putF "_rest_marks" (.ref rm) (putF "_early_marks" (.ref em) (putF "_rests" (.ref re) (fZ3 k st ea))) = fZ k st ea re em rm := by
  unfold fZ fZ3
  simp only [L2.putF, q_period_rests, q_start_rests, q_early_rests, q_period_early_marks, q_start_early_marks, q_early_early_marks, q_rests_early_marks, q_period_rest_marks, q_start_rest_marks, q_early_rest_marks, q_rests_rest_marks, q_early_marks_rest_marks, if_false]
theorem fZ2_s (k st : Int) : (fZ2 k st).lookup ("_start" : Str) = some (V.int st) := by unfold fZ2; walk_at "lk"
theorem fZ3_p (k st : Int) (ea : Addr) : (fZ3 k st ea).lookup ("_period" : Str) = some (V.int k) := by unfold fZ3; walk_at "lk"
local macro_rules | `(tactic| walk_at "lk") => `(tactic| first | exact fZ_1 _ _ _ _ _ _ | exact fZ_2 _ _ _ _ _ _ | exact fZ_3 _ _ _ _ _ _ | exact fZ_4 _ _ _ _ _ _ | exact fZ_5 _ _ _ _ _ _ | exact fZ_6 _ _ _ _ _ _ | exact fZ2_s _ _ | exact fZ3_p _ _ _)
local macro_rules | `(tactic| walk_at "sfl") => `(tactic| first | (unfold fZ2; with_unfolding_all exact Nat.le_of_ble_eq_true rfl) | (unfold fZ3; with_unfolding_all exact Nat.le_of_ble_eq_true rfl) | (unfold fZ3; (refine Rd.lput ?_); (repeat refine Rd.lputs ?_); with_unfolding_all exact Nat.le_of_ble_eq_true rfl) | fail "sfl")
/-- a made set -/
def IsSet (A : Adr) (H : Hp) (p : Addr) (w t : Rows) : Prop := ∃ (dx ea re em rm : Addr), H p = some (.ins A.c_SizeSet dx (fZ t.p t.s ea re em rm)) ∧ H ea = some (.lst (t.E.map V.int)) ∧ H re = some (.lst (t.R.map V.int)) ∧ H em = some (.lst ((mk w.E w.s.toNat).map V.bl)) ∧ H rm = some (.lst (((mk w.R w.p.toNat).take t.p.toNat).map V.bl))
theorem IsSet.same {A : Adr} {H H' : Hp} {p : Addr} {w t : Rows} (S : Same H H') : IsSet A H p w t → IsSet A H' p w t
  | ⟨dx, ea, re, em, rm, h1, h2, h3, h4, h5⟩ => ⟨dx, ea, re, em, rm, S _ _ h1, S _ _ h2, S _ _ h3, S _ _ h4, S _ _ h5⟩
/-- a made set survives what is changed at an old address -/
def SetKept (A : Adr) (a : Addr) (H1 : Hp) (p : Addr) (w t : Rows) : Prop := ∀ Hx, Frm a H1 Hx → IsSet A Hx p w t
theorem SetKept.at {A : Adr} {a p : Addr} {H1 Hx : Hp} {w t : Rows} (k : SetKept A a H1 p w t) (F : Frm a H1 Hx) : IsSet A Hx p w t := k Hx F
def SetNew (A : Adr) (H0 H1 : Hp) (p : Addr) (w t : Rows) : Prop := IsSet A H1 p w t ∧ ∀ a o, H0 a = some o → a ≠ p → SetKept A a H1 p w t
theorem set_new {A : Adr} {H0 H1 : Hp} {p dx ea re em rm : Addr} {w t : Rows} (h1 : H1 p = some (.ins A.c_SizeSet dx (fZ t.p t.s ea re em rm))) (h2 : H1 ea = some (.lst (t.E.map V.int))) (h3 : H1 re = some (.lst (t.R.map V.int))) (h4 : H1 em = some (.lst ((mk w.E w.s.toNat).map V.bl))) (h5 : H1 rm = some (.lst (((mk w.R w.p.toNat).take t.p.toNat).map V.bl)))
    (n : ∀ a o, H0 a = some o → a ≠ p → ea ≠ a ∧ re ≠ a ∧ em ≠ a ∧ rm ≠ a) : SetNew A H0 H1 p w t :=
  ⟨⟨dx, ea, re, em, rm, h1, h2, h3, h4, h5⟩, fun a o ha na Hx F => by
    obtain ⟨n1, n2, n3, n4⟩ := n a o ha na
    exact ⟨dx, ea, re, em, rm, F _ _ h1 na.symm, F _ _ h2 n1, F _ _ h3 n2, F _ _ h4 n3, F _ _ h5 n4⟩⟩
theorem filt_yes {l : List Int} {i : Nat} {x m : Int} (h : l[i]? = some x) (g : x < m) : ((l.take i).filter (fun x => decide (x < m))).map V.int ++ [V.int x] = ((l.take (i + 1)).filter (fun x => decide (x < m))).map V.int := by
  rw [List.take_add_one, h, List.filter_append]
  simp [g]
theorem filt_no {l : List Int} {i : Nat} {x m : Int} (h : l[i]? = some x) (g : ¬ x < m) : (l.take i).filter (fun x => decide (x < m)) = (l.take (i + 1)).filter (fun x => decide (x < m)) := by
  rw [List.take_add_one, h, List.filter_append]
  simp [g]
theorem asc_len {hi : Int} : ∀ {l : List Int} {lo : Int}, Asc hi lo l → (l.length : Int) ≤ hi - lo + 1 ∨ l = []
  | [], _, _ => .inr rfl
  | [x], lo, ⟨h1, h2, _⟩ => .inl (by simp; omega)
  | x :: y :: r, lo, ⟨h1, h2, h3⟩ => by
    rcases asc_len h3 with h | h
    · left; simp only [List.length_cons] at *; omega
    · cases h
theorem asc_200 {hi lo : Int} {l : List Int} (h : Asc hi lo l) (g : hi - lo + 1 ≤ 20000) : l.length ≤ 20000 := by
  rcases asc_len h with h | h
  · omega
  · subst h; simp

theorem IsSet.sameR {A : Adr} {H H' : Hp} {p : Addr} {w t : Rows} (h : IsSet A H p w t) (S : Same H H') : IsSet A H' p w t := h.same S
local macro_rules | `(tactic| walk_at "set") => `(tactic| first | with_reducible assumption | ((with_reducible apply SetKept.at); (· with_reducible assumption); (· walk_at "frm")) | ((with_reducible apply IsSet.sameR); (· with_reducible assumption); (· walk_at "frm")) | fail "set")
theorem fZ_least (k st : Int) (ea re em rm : Addr) : (fZ k st ea re em rm).lookup ("least" : Str) = none := by unfold fZ; walk_at "lk"
local macro_rules | `(tactic| walk_at "lk") => `(tactic| exact fZ_least _ _ _ _ _ _)

theorem at_early {w t : Rows} (c : Canon w t) {n : Int} (n1 : 1 ≤ n) (n2 : n < t.s) : atI ((mk w.E w.s.toNat).map V.bl) n = some (.bl (w.has n)) := by
  have s2 := c.s2
  obtain ⟨i, rfl⟩ := Int.eq_ofNat_of_zero_le (show 0 ≤ n by omega)
  refine atI_nat ?_
  rw [List.getElem?_map, mk_at (by omega)]
  unfold Rows.has
  rw [if_pos (by omega)]
  rfl
theorem at_rest {w t : Rows} (ok : w.Ok) (c : Canon w t) {n : Int} (n1 : 1 ≤ n) (n2 : t.s ≤ n) : atI (((mk w.R w.p.toNat).take t.p.toNat).map V.bl) (n % t.p) = some (.bl (w.has n)) := by
  have k1 := c.k.pos
  have kp := c.kp
  have a := Int.emod_nonneg n (show t.p ≠ 0 by omega)
  have b := Int.emod_lt_of_pos n (show 0 < t.p by omega)
  rw [c.from n2, ← c.r n]
  obtain ⟨i, hi⟩ := Int.eq_ofNat_of_zero_le a
  unfold Rows.r
  rw [hi]
  refine atI_nat ?_
  rw [List.getElem?_map, List.getElem?_take_of_lt (by omega), mk_at (by omega), c.R]
  show some (V.bl _) = _
  congr 2
  rw [decide_eq_decide, List.mem_filter]
  exact ⟨fun h => ⟨h, decide_eq_true (by omega)⟩, And.left⟩
/-- the least number of a set, or none -/
def LeastV (w t : Rows) (v : V) : Prop := (∃ n : Int, v = .int n ∧ 1 ≤ n ∧ w.has n = true ∧ ∀ m, 1 ≤ m → m < n → w.has m = false) ∨ (v = .non ∧ ∀ m, 1 ≤ m → m < t.s + t.p → w.has m = false)
local macro_rules | `(tactic| walk_at "dpt") => `(tactic| first | ((with_reducible apply Rd.dp_parts); (· walk_at "hpt"); (· walk_at "hpl"); (· walk_at "hpl")) | fail "dpt")
local macro_rules | `(tactic| walk_at "shp") => `(tactic| first | exact Rd.shaped_parts _ _ _ _ | fail "shp")

theorem up_snoc {f : Int → Bool} : ∀ (n : Nat) (lo : Int), M31.up f (n + 1) lo = M31.up f n lo ++ (if f (lo + n) then [lo + n] else [])
  | 0, lo => by simp [M31.up]
  | n + 1, lo => by
    have ih := up_snoc (f := f) n (lo + 1)
    have e : lo + 1 + (n : Int) = lo + ((n + 1 : Nat) : Int) := by omega
    rw [e] at ih
    conv => lhs; unfold M31.up
    conv => rhs; unfold M31.up
    rw [ih]
    split <;> simp
theorem up_len {f : Int → Bool} : ∀ (n : Nat) (lo : Int), (M31.up f n lo).length ≤ n
  | 0, _ => Nat.le_refl _
  | n + 1, lo => by
    have := up_len (f := f) n (lo + 1)
    unfold M31.up
    split
    · rw [List.length_cons]; omega
    · omega
theorem IsSet.raw {A : Adr} {H : Hp} {p : Addr} {w t : Rows} (h : IsSet A H p w t) : ∃ dx fs, H p = some (.ins A.c_SizeSet dx fs) := by
  obtain ⟨dx, ea, re, em, rm, h1, _⟩ := h
  exact ⟨_, _, h1⟩
theorem all_up {f g : Int → Bool} {n : Nat} : ((M31.up f n 1).map g).all id = true ↔ ∀ m : Int, 1 ≤ m → m < 1 + (n : Int) → f m = true → g m = true := by
  rw [List.all_eq_true]
  constructor
  · intro h m a b c
    exact h _ (List.mem_map.mpr ⟨m, M31.up_mem.mpr ⟨a, b, c⟩, rfl⟩)
  · intro h x hx
    obtain ⟨m, hm, rfl⟩ := List.mem_map.mp hx
    obtain ⟨a, b, c⟩ := M31.up_mem.mp hm
    exact h m a b c
/-- where both are told -/
def topV (a b : Int) : Int := if b < a then a else b

/-- no whole number from lo to hi -/
def BadI (K : PySem.W.Frag) (H : Hp) (y : V) (lo hi : Int) : Prop := (∃ i : Int, y = .int i ∧ i < lo) ∨ (∃ i : Int, y = .int i ∧ lo ≤ i ∧ hi < i) ∨ Odd K H y
theorem BadI.same {K : PySem.W.Frag} {H H' : Hp} {y : V} {lo hi : Int} (S : Same H H') (h : BadI K H y lo hi) : BadI K H' y lo hi := h.imp id fun h => h.imp id (Odd.same S)
/-- no list at all -/
def OddL (K : PySem.W.Frag) (H : Hp) (y : V) : Prop := ∃ t, TyX K H y t ∧ PySem.W.kitOne K t (.type "list") = some false
theorem OddL.same {K : PySem.W.Frag} {H H' : Hp} {y : V} (S : Same H H') (h : OddL K H y) : OddL K H' y := by
  obtain ⟨t, a, b⟩ := h
  exact ⟨t, Rd.tyx_same S a, b⟩
/-- no list of whole numbers from lo to hi in ascending order -/
def NotAsc (K : PySem.W.Frag) (H : Hp) (v : V) (lo hi : Int) : Prop := OddL K H v ∨ (∃ l x, v = .ref l ∧ H l = some (.lst [x]) ∧ BadI K H x lo hi) ∨ (∃ l i x, v = .ref l ∧ H l = some (.lst [.int i, x]) ∧ lo ≤ i ∧ i ≤ hi ∧ BadI K H x (i + 1) hi)
theorem NotAsc.same {K : PySem.W.Frag} {H H' : Hp} {v : V} {lo hi : Int} (S : Same H H') (h : NotAsc K H v lo hi) : NotAsc K H' v lo hi :=
  h.imp (OddL.same S) fun h => h.imp (fun ⟨l, x, a, b, c⟩ => ⟨l, x, a, S _ _ b, c.same S⟩) fun ⟨l, i, x, a, b, c, d, e⟩ => ⟨l, i, x, a, S _ _ b, c, d, e.same S⟩
def IsAsc (H : Hp) (v : V) (lo hi : Int) : Prop := ∃ l ns, v = .ref l ∧ H l = some (.lst (ns.map V.int)) ∧ Asc hi lo ns
theorem IsAsc.same {H H' : Hp} {v : V} {lo hi : Int} (S : Same H H') (h : IsAsc H v lo hi) : IsAsc H' v lo hi := by
  obtain ⟨l, ns, a, b, c⟩ := h
  exact ⟨l, ns, a, S _ _ b, c⟩
/-- no set's parts -/
def BadR (K : PySem.W.Frag) (H : Hp) (e s p r : V) : Prop := BadI K H s 1 20000 ∨ (∃ a : Int, s = .int a ∧ 1 ≤ a ∧ a ≤ 20000 ∧ (BadI K H p 1 5000 ∨ ∃ b : Int, p = .int b ∧ 1 ≤ b ∧ b ≤ 5000 ∧ (NotAsc K H e 1 (a - 1) ∨ (IsAsc H e 1 (a - 1) ∧ NotAsc K H r 0 (b - 1)))))
theorem BadR.same {K : PySem.W.Frag} {H H' : Hp} {e s p r : V} (S : Same H H') (h : BadR K H e s p r) : BadR K H' e s p r :=
  h.imp (BadI.same S) fun ⟨a, x, y, z, h⟩ => ⟨a, x, y, z, h.imp (BadI.same S) fun ⟨b, u, v, w, h⟩ => ⟨b, u, v, w, h.imp (NotAsc.same S) fun ⟨h1, h2⟩ => ⟨h1.same S, h2.same S⟩⟩⟩
/-- no set of sizes -/
def OddS (A : Adr) (K : PySem.W.Frag) (H : Hp) (y : V) : Prop := ∃ T : String, T ∈ (["NoneType", "int", "bool", "str", "tuple", "list", "dict"] : List String) ∧ TyX K H y (.type T)
theorem OddS.same {A : Adr} {K : PySem.W.Frag} {H H' : Hp} {y : V} (S : Same H H') (h : OddS A K H y) : OddS A K H' y := by
  obtain ⟨t, a, b⟩ := h
  exact ⟨t, a, Rd.tyx_same S b⟩

theorem asc_pw {hi : Int} : ∀ {l : List Int} {lo : Int}, Asc hi lo l → l.Pairwise (· < ·)
  | [], _, _ => .nil
  | x :: r, _, ⟨_, _, h⟩ => .cons (fun y hy => by have := (h.mem y hy).1; omega) (asc_pw h)
theorem asc_of {hi : Int} : ∀ {l : List Int} {lo : Int}, l.Pairwise (· < ·) → (∀ x ∈ l, lo ≤ x ∧ x ≤ hi) → Asc hi lo l
  | [], _, _, _ => trivial
  | x :: r, lo, p, b => by
    obtain ⟨p1, p2⟩ := List.pairwise_cons.mp p
    obtain ⟨b1, b2⟩ := b x List.mem_cons_self
    exact ⟨b1, b2, asc_of p2 fun y hy => ⟨by have := p1 y hy; omega, (b y (List.mem_cons_of_mem _ hy)).2⟩⟩
theorem mod_one {st pd x y : Int} (p1 : 1 ≤ pd) (a : st ≤ x) (b : x < st + pd) (c : st ≤ y) (d : y < st + pd) (e : x % pd = y % pd) : x = y := by
  have h := Int.emod_eq_emod_iff_emod_sub_eq_zero.mp e
  have h2 := Int.emod_eq_emod_iff_emod_sub_eq_zero.mp e.symm
  rcases (by omega : x < y ∨ x = y ∨ y < x) with q | q | q
  · rw [Int.emod_eq_of_lt (by omega) (by omega)] at h2; omega
  · exact q
  · rw [Int.emod_eq_of_lt (by omega) (by omega)] at h; omega
/-- the residues of the later numbers -/
def resOf (st pd : Int) (ns : List Int) : List Int := (ns.filter fun x => decide (st ≤ x)).map (· % pd)
theorem res_ok {st pd : Int} {ns m : List Int} (p1 : 1 ≤ pd) (s1 : 1 ≤ st) (h : Asc (st + pd - 1) 1 ns) (p : m.Perm (resOf st pd ns)) (o : m.Pairwise (· ≤ ·)) : Asc (pd - 1) 0 m := by
  have pw : (resOf st pd ns).Pairwise (· ≠ ·) := by
    unfold resOf
    rw [List.pairwise_map]
    refine List.Pairwise.imp_of_mem (fun {x y} hx hy q e => ?_) ((asc_pw h).filter _)
    obtain ⟨x1, x2⟩ := List.mem_filter.mp hx
    obtain ⟨y1, y2⟩ := List.mem_filter.mp hy
    have x2 := of_decide_eq_true x2
    have y2 := of_decide_eq_true y2
    have bx := h.mem x x1
    have bz := h.mem y y1
    have := mod_one p1 x2 (by omega) y2 (by omega) e
    omega
  have nd : m.Pairwise (· ≠ ·) := (p.pairwise_iff (fun e z => e z.symm)).mpr pw
  refine asc_of ((o.and nd).imp fun ⟨a, b⟩ => by omega) fun x hx => ?_
  obtain ⟨y, _, rfl⟩ := List.mem_map.mp (p.mem_iff.mp hx)
  have a := Int.emod_nonneg y (show pd ≠ 0 by omega)
  have b := Int.emod_lt_of_pos y (show 0 < pd by omega)
  omega
theorem res_len (st pd : Int) (ns : List Int) : (resOf st pd ns).length ≤ ns.length := by
  unfold resOf
  rw [List.length_map]
  exact List.length_filter_le _ _
theorem res_yes {st pd x : Int} {ns : List Int} {i : Nat} (h : ns[i]? = some x) (g : st ≤ x) : (resOf st pd (ns.take i)).map V.int ++ [V.int (x % pd)] = (resOf st pd (ns.take (i + 1))).map V.int := by
  unfold resOf
  rw [List.take_add_one, h, List.filter_append]
  simp [g]
theorem res_no {st pd x : Int} {ns : List Int} {i : Nat} (h : ns[i]? = some x) (g : ¬ st ≤ x) : resOf st pd (ns.take i) = resOf st pd (ns.take (i + 1)) := by
  unfold resOf
  rw [List.take_add_one, h, List.filter_append]
  simp [g]
theorem asc_big {hi lo : Int} {l : List Int} (h : Asc hi lo l) (g : hi - lo + 1 ≤ 25000) : l.length ≤ 25000 := by
  rcases asc_len h with h | h
  · omega
  · subst h; simp

/-- a set that is made, of parts within the bounds -/
def SetG (A : Adr) (H : Hp) (p : Addr) (w t : Rows) : Prop := IsSet A H p w t ∧ Canon w t ∧ w.Ok ∧ w.s ≤ 20000 ∧ w.p ≤ 5000
theorem SetG.same {A : Adr} {H H' : Hp} {p : Addr} {w t : Rows} (S : Same H H') (h : SetG A H p w t) : SetG A H' p w t := ⟨h.1.same S, h.2⟩
theorem SetG.sameR {A : Adr} {H H' : Hp} {p : Addr} {w t : Rows} (h : SetG A H p w t) (S : Same H H') : SetG A H' p w t := h.same S
theorem SetG.b {A : Adr} {H : Hp} {p : Addr} {w t : Rows} (h : SetG A H p w t) : 1 ≤ t.p ∧ t.p ≤ 5000 ∧ 1 ≤ t.s ∧ t.s ≤ 20000 := by
  obtain ⟨_, c, _, a, b⟩ := h
  have c1 := c.k.pos
  have c2 := c.kp
  have c3 := c.s1
  have c4 := c.s2
  exact ⟨c1, by omega, c3, by omega⟩
local macro_rules | `(tactic| walk_at "sg") => `(tactic| first | with_reducible assumption | ((with_reducible apply SetG.sameR); (· with_reducible assumption); (· walk_at "frm")) | fail "sg")
theorem t7 {T : String} (h : T ∈ (["NoneType", "int", "bool", "str", "tuple", "list", "dict"] : List String)) : T = "NoneType" ∨ T = "int" ∨ T = "bool" ∨ T = "str" ∨ T = "tuple" ∨ T = "list" ∨ T = "dict" := by
  simpa only [List.mem_cons, List.not_mem_nil, or_false] using h
local macro_rules | `(tactic| walk_at "t7") => `(tactic| with_reducible assumption)
theorem odd_kit {K : PySem.W.Frag} {mg : Str → Option Value} {A : Adr} {w : World} (Z : Txt w K mg A) {T : String} (h : T ∈ (["NoneType", "int", "bool", "str", "tuple", "list", "dict"] : List String)) : PySem.W.kitOne K (.type T) (.ref A.c_SizeSet) = some false := by
  rcases t7 h with rfl | rfl | rfl | rfl | rfl | rfl | rfl
  · exact Z.kt_NoneType_SizeSet
  · exact Z.kt_int_SizeSet
  · exact Z.kt_bool_SizeSet
  · exact Z.kt_str_SizeSet
  · exact Z.kt_tuple_SizeSet
  · exact Z.kt_list_SizeSet
  · exact Z.kt_dict_SizeSet
theorem odd_nf {K : PySem.W.Frag} {mg : Str → Option Value} {A : Adr} {w : World} (Z : Txt w K mg A) {T : String} (h : T ∈ (["NoneType", "int", "bool", "str", "tuple", "list", "dict"] : List String)) : PySem.W.notFirst K A.c_SizeSet (.type T) = true := by
  rcases t7 h with rfl | rfl | rfl | rfl | rfl | rfl | rfl
  · exact Z.nf_NoneType_SizeSet
  · exact Z.nf_int_SizeSet
  · exact Z.nf_bool_SizeSet
  · exact Z.nf_str_SizeSet
  · exact Z.nf_tuple_SizeSet
  · exact Z.nf_list_SizeSet
  · exact Z.nf_dict_SizeSet

def andF (w w' : Rows) (n : Int) : Bool := w.has n && w'.has n

def orF (w w' : Rows) (n : Int) : Bool := w.has n || w'.has n

theorem up_asc' {f : Int → Bool} : ∀ {n : Nat} {lo hi : Int}, lo + n - 1 ≤ hi → Asc hi lo (M31.up f n lo)
  | 0, _, _, _ => trivial
  | n + 1, lo, hi, h => by
    unfold M31.up
    split
    · exact ⟨Int.le_refl _, by omega, up_asc' (by omega)⟩
    · exact (up_asc' (lo := lo + 1) (by omega)).lo (by omega)

def Due (A : Adr) (C : Addr) (nm : Str) : Prop := (C = A.c_NoSet ∧ nm = "set") ∨ (C = A.c_TooLong ∧ nm = "long")
local macro_rules | `(tactic| walk_at "exm") => `(tactic| with_reducible assumption)
local macro_rules | `(tactic| walk_at "due") => `(tactic| first | exact Or.inl ⟨rfl, rfl⟩ | exact Or.inr ⟨rfl, rfl⟩)
theorem TyI (K : PySem.W.Frag) (H : Hp) (i : Int) : TyX K H (.int i) (.type "int") := L2.TyX.base (L2.TyOf.int i)
theorem OddN.frm {H H' : Hp} {v : V} {a : Addr} {x y : V} (F : Frm a H H') (ha : H a = some (.lst [x, y])) (h : Rd.OddN H v) : Rd.OddN H' v := by
  cases h with
  | non => exact .non
  | str x => exact .str x
  | tup q => exact .tup (F _ _ q (L2.ne_of q ha (by intro z; cases z)))
  | lst q n => exact .lst (F _ _ q (L2.ne_of q ha (by intro z; cases z; exact n rfl))) n
  | dK q => exact .dK (F _ _ q (L2.ne_of q ha (by intro z; cases z)))
theorem odd_s {A : Adr} {K : PySem.W.Frag} {H : Hp} {y : V} (h : Rd.OddN H y) : OddS A K H y := by
  obtain ⟨t, hT, ty⟩ := h.ty (K := K)
  refine ⟨t, ?_, ty⟩
  simp only [Rd.TS0, List.mem_cons, List.not_mem_nil, or_false] at hT
  rcases hT with rfl | rfl | rfl | rfl | rfl <;> decide +kernel

local macro_rules | `(tactic| walk_at "ll") => `(tactic| first | exact Nat.le_of_lt (L2.small1000 (by simp only [List.length_append, List.length_cons, List.length_nil]; omega)) | exact (by simp only [List.length_append, List.length_cons, List.length_nil]; omega) | fail "ll")
/-- what is drawn in an item's place -/
def BadV (lo hi : Int) (x : V) : Prop := (∃ i : Int, x = .int i ∧ i < lo) ∨ (∃ i : Int, x = .int i ∧ lo ≤ i ∧ hi < i) ∨ x = .non ∨ (∃ b, x = .bl b) ∨ (∃ s, x = .str s)
theorem BadV.bad {K : PySem.W.Frag} {H : Hp} {lo hi : Int} {x : V} (h : BadV lo hi x) : BadI K H x lo hi := by
  rcases h with h | h | rfl | ⟨b, rfl⟩ | ⟨s, rfl⟩
  · exact .inl h
  · exact .inr (.inl h)
  · exact .inr (.inr (oddV_odd (.inl .non)))
  · exact .inr (.inr (oddV_odd (.inr ⟨_, rfl⟩)))
  · exact .inr (.inr (oddV_odd (.inl (.str _))))
/-- a list that is not the source's -/
def LstA (a : Addr) (H : Hp) (v : V) (us : List V) : Prop := ∃ l, v = .ref l ∧ l ≠ a ∧ H l = some (.lst us)
/-- no list -/
def NoL (H : Hp) (v : V) : Prop := v = .non ∨ (∃ s, v = .str s) ∨ (∃ q us, v = .ref q ∧ H q = some (.tup us)) ∨ (∃ q ks, v = .ref q ∧ H q = some (.dK ks))
def NAs (a : Addr) (H : Hp) (v : V) (lo hi : Int) : Prop := NoL H v ∨ (∃ x, LstA a H v [x] ∧ BadV lo hi x) ∨ (∃ i x, LstA a H v [.int i, x] ∧ lo ≤ i ∧ i ≤ hi ∧ BadV (i + 1) hi x)
def RowR (a : Addr) (H : Hp) (e s p r : V) : Prop := BadV 1 20000 s ∨ (∃ x : Int, s = .int x ∧ 1 ≤ x ∧ x ≤ 20000 ∧ (BadV 1 5000 p ∨ ∃ b : Int, p = .int b ∧ 1 ≤ b ∧ b ≤ 5000 ∧ (NAs a H e 1 (x - 1) ∨ (LstA a H e [] ∧ NAs a H r 0 (b - 1)))))
def RowB (a : Addr) (H : Hp) (v : V) : Prop := ∃ q e s p r, v = .ref q ∧ H q = some (.tup [e, s, p, r]) ∧ RowR a H e s p r
theorem LstA.frm {a : Addr} {H H' : Hp} {v : V} {us : List V} (F : Frm a H H') : LstA a H v us → LstA a H' v us
  | ⟨l, e, n, h⟩ => ⟨l, e, n, F _ _ h n⟩
theorem NoL.frm {a : Addr} {H H' : Hp} {v : V} {x y : V} (F : Frm a H H') (ha : H a = some (.lst [x, y])) : NoL H v → NoL H' v := by
  rintro (h | h | ⟨q, us, e, h⟩ | ⟨q, ks, e, h⟩)
  · exact .inl h
  · exact .inr (.inl h)
  · exact .inr (.inr (.inl ⟨q, us, e, F _ _ h (L2.ne_of h ha (by intro z; cases z))⟩))
  · exact .inr (.inr (.inr ⟨q, ks, e, F _ _ h (L2.ne_of h ha (by intro z; cases z))⟩))
theorem NAs.frm {a : Addr} {H H' : Hp} {v : V} {x y : V} {lo hi : Int} (F : Frm a H H') (ha : H a = some (.lst [x, y])) (h : NAs a H v lo hi) : NAs a H' v lo hi :=
  h.imp (NoL.frm F ha) fun h => h.imp (fun ⟨x, b, c⟩ => ⟨x, b.frm F, c⟩) fun ⟨i, x, b, c⟩ => ⟨i, x, b.frm F, c⟩
theorem RowB.frm {a : Addr} {H H' : Hp} {v : V} {x y : V} (F : Frm a H H') (ha : H a = some (.lst [x, y])) : RowB a H v → RowB a H' v
  | ⟨q, e, s, p, r, z, h, g⟩ => ⟨q, e, s, p, r, z, F _ _ h (L2.ne_of h ha (by intro z; cases z)), g.imp id fun ⟨x, a1, a2, a3, g⟩ => ⟨x, a1, a2, a3, g.imp id fun ⟨b, b1, b2, b3, g⟩ => ⟨b, b1, b2, b3, g.imp (NAs.frm F ha) fun ⟨c, d⟩ => ⟨c.frm F, d.frm F ha⟩⟩⟩⟩
theorem RowB.same {a : Addr} {H H' : Hp} {v : V} (S : Same H H') : RowB a H v → RowB a H' v := by
  rintro ⟨q, e, s, p, r, z, h, g⟩
  have l1 : ∀ {v us}, LstA a H v us → LstA a H' v us := fun ⟨l, e, n, h⟩ => ⟨l, e, n, S _ _ h⟩
  have l2 : ∀ {v}, NoL H v → NoL H' v := fun h => h.imp id fun h => h.imp id fun h => h.imp (fun ⟨q, us, e, h⟩ => ⟨q, us, e, S _ _ h⟩) fun ⟨q, us, e, h⟩ => ⟨q, us, e, S _ _ h⟩
  have l3 : ∀ {v lo hi}, NAs a H v lo hi → NAs a H' v lo hi := fun h => h.imp l2 fun h => h.imp (fun ⟨x, b, c⟩ => ⟨x, l1 b, c⟩) fun ⟨i, x, b, c⟩ => ⟨i, x, l1 b, c⟩
  exact ⟨q, e, s, p, r, z, S _ _ h, g.imp id fun ⟨x, a1, a2, a3, g⟩ => ⟨x, a1, a2, a3, g.imp id fun ⟨b, b1, b2, b3, g⟩ => ⟨b, b1, b2, b3, g.imp l3 fun ⟨c, d⟩ => ⟨l1 c, l3 d⟩⟩⟩⟩
theorem NoL.odd {K : PySem.W.Frag} {H : Hp} {v : V} (h : NoL H v) : OddL K H v := by
  rcases h with rfl | ⟨s, rfl⟩ | ⟨q, us, rfl, h⟩ | ⟨q, ks, rfl, h⟩
  · exact ⟨_, .base .non, kit_ty (by decide +kernel)⟩
  · exact ⟨_, .base (.str _), kit_ty (by decide +kernel)⟩
  · exact ⟨_, .base (.tup h), kit_ty (by decide +kernel)⟩
  · exact ⟨_, .base (.dK h), kit_ty (by decide +kernel)⟩
theorem NAs.bad {a : Addr} {K : PySem.W.Frag} {H : Hp} {v : V} {lo hi : Int} (h : NAs a H v lo hi) : NotAsc K H v lo hi :=
  h.imp NoL.odd fun h => h.imp (fun ⟨x, ⟨l, e, _, h⟩, c⟩ => ⟨l, x, e, h, c.bad⟩) fun ⟨i, x, ⟨l, e, _, h⟩, c1, c2, c3⟩ => ⟨l, i, x, e, h, c1, c2, c3.bad⟩
theorem RowR.bad {a : Addr} {K : PySem.W.Frag} {H : Hp} {e s p r : V} (h : RowR a H e s p r) : BadR K H e s p r :=
  h.imp BadV.bad fun ⟨x, a1, a2, a3, g⟩ => ⟨x, a1, a2, a3, g.imp BadV.bad fun ⟨b, b1, b2, b3, g⟩ => ⟨b, b1, b2, b3, g.imp NAs.bad fun ⟨⟨l, e, _, h⟩, d⟩ => ⟨⟨l, [], e, h, trivial⟩, d.bad⟩⟩⟩

theorem one_res {w t : Rows} {x : Int} (c : Canon w t) (h : w.R = [x]) (x0 : 0 ≤ x) (x1 : x < w.p) : t.p = w.p := by
  have k1 := c.k.pos
  have kp := c.kp
  have a : w.r x = true := by show decide (x % w.p ∈ w.R) = true; rw [Int.emod_eq_of_lt x0 x1, h]; simp
  have b : w.r (x + t.p) = true := by rw [c.k.per]; exact a
  have b : (x + t.p) % w.p ∈ w.R := of_decide_eq_true b
  rw [h, List.mem_singleton] at b
  rcases (by omega : t.p = w.p ∨ t.p < w.p) with e | e
  · exact e
  · rcases (by omega : x + t.p < w.p ∨ w.p ≤ x + t.p) with g | g
    · rw [Int.emod_eq_of_lt (by omega) g] at b; omega
    · rw [show x + t.p = x + t.p - w.p + w.p by omega, Int.add_emod_right, Int.emod_eq_of_lt (by omega) (by omega)] at b; omega
theorem two_res {t : Rows} (c : Canon ⟨[], 1, 73, [2, 3]⟩ t) : t.p = 73 := by
  have k1 := c.k.pos
  have kp : t.p ≤ 73 := c.kp
  have b : (2 + t.p) % 73 ∈ ([2, 3] : List Int) := of_decide_eq_true ((c.k.per 2).trans (by decide +kernel))
  have d : (3 + t.p) % 73 ∈ ([2, 3] : List Int) := of_decide_eq_true ((c.k.per 3).trans (by decide +kernel))
  simp only [List.mem_cons, List.not_mem_nil, or_false] at b d
  omega
theorem has_none (n : Int) : Rows.has ⟨[], 1, 1, []⟩ n = false := by
  unfold Rows.has Rows.r
  split <;> simp
theorem has_every {n : Int} (h : 1 ≤ n) : Rows.has ⟨[], 1, 1, [0]⟩ n = true := by
  unfold Rows.has Rows.r
  rw [if_neg (show ¬ n < 1 by omega)]
  simp [Int.emod_one]
theorem ne9 (x : V) : (!decide (x = x)) = false := by rw [decide_eq_true rfl]; rfl
local macro_rules | `(tactic| walk_at "bF") => `(tactic| first | exact ne9 _ | with_reducible assumption | fail "bF")
local macro_rules | `(tactic| walk_at "bT") => `(tactic| first | with_reducible assumption | fail "bT")

section
variable {P : Program} {w : World} {K : PySem.W.Frag} {mg : Str → Option Value} {base : Heap} {A : Adr}
/-! is_whole -/
theorem sc_is_whole : FnScope ["thing"] ["thing"] (defScope s_is_whole) := ⟨rfl, rfl, rfl, by decide +kernel, rfl, by decide +kernel, by decide +kernel⟩
abbrev sp_is_whole (K : PySem.W.Frag) (A : Adr) : Sp := fun vs H Q _ => ∃ y : V, vs = [y] ∧ ((∃ i : Int, y = .int i ∧ Q (.bl true) H) ∨ (Odd K H y ∧ Q (.bl false) H))
theorem ok_is_whole (T : Txt w K mg A) : FnOk P w K mg base CX0 1 A.f_is_whole A.d_is_whole ["thing"] (sp_is_whole K A) := by
  refine T.F_is_whole.ok sc_is_whole (fun vs H Q E h => ?_) (fun cdv Ar outer s H vs Q E hr h => ?_)
  · obtain ⟨y, rfl, hy⟩ := h
    rfl
  · obtain ⟨y, rfl, hy⟩ := h
    have hu := hu_of hr
    have t_i_SizeSet := T.i_SizeSet
    have t_kt_NoneType_SizeSet := T.kt_NoneType_SizeSet
    have t_kt_int_SizeSet := T.kt_int_SizeSet
    have t_kt_bool_SizeSet := T.kt_bool_SizeSet
    have t_kt_str_SizeSet := T.kt_str_SizeSet
    have t_kt_tuple_SizeSet := T.kt_tuple_SizeSet
    have t_kt_list_SizeSet := T.kt_list_SizeSet
    have t_kt_dict_SizeSet := T.kt_dict_SizeSet
    have t_kt_SizeSet_SizeSet := T.kt_SizeSet_SizeSet
    have t_nf_SizeSet_SizeSet := T.nf_SizeSet_SizeSet
    have t_nf_NoneType_SizeSet := T.nf_NoneType_SizeSet
    have t_nf_int_SizeSet := T.nf_int_SizeSet
    have t_nf_bool_SizeSet := T.nf_bool_SizeSet
    have t_nf_str_SizeSet := T.nf_str_SizeSet
    have t_nf_tuple_SizeSet := T.nf_tuple_SizeSet
    have t_nf_list_SizeSet := T.nf_list_SizeSet
    have t_nf_dict_SizeSet := T.nf_dict_SizeSet
    have t_kt_NoSet_in_NoForm := T.kt_NoSet_in_NoForm
    have t_kt_NoSet_in_NoCounter := T.kt_NoSet_in_NoCounter
    have t_kt_NoSet_in_NoScheme := T.kt_NoSet_in_NoScheme
    have t_kt_NoSet_in_NoSize := T.kt_NoSet_in_NoSize
    have t_kt_NoSet_in_NoRing := T.kt_NoSet_in_NoRing
    have t_kt_NoSet_in_Outside := T.kt_NoSet_in_Outside
    have t_kt_NoSet_in_NoRun := T.kt_NoSet_in_NoRun
    have t_kt_NoSet_in_NoSet := T.kt_NoSet_in_NoSet
    have t_kt_NoSet_in_TooLong := T.kt_NoSet_in_TooLong
    have t_kt_NoSet_in_VE := T.kt_NoSet_in_VE
    have t_xm_NoSet := T.xm_NoSet
    have t_kt_TooLong_in_NoForm := T.kt_TooLong_in_NoForm
    have t_kt_TooLong_in_NoCounter := T.kt_TooLong_in_NoCounter
    have t_kt_TooLong_in_NoScheme := T.kt_TooLong_in_NoScheme
    have t_kt_TooLong_in_NoSize := T.kt_TooLong_in_NoSize
    have t_kt_TooLong_in_NoRing := T.kt_TooLong_in_NoRing
    have t_kt_TooLong_in_Outside := T.kt_TooLong_in_Outside
    have t_kt_TooLong_in_NoRun := T.kt_TooLong_in_NoRun
    have t_kt_TooLong_in_NoSet := T.kt_TooLong_in_NoSet
    have t_kt_TooLong_in_TooLong := T.kt_TooLong_in_TooLong
    have t_kt_TooLong_in_VE := T.kt_TooLong_in_VE
    have t_xm_TooLong := T.xm_TooLong
    have t_k_SizeSet := T.k_SizeSet
    rcases hy with ⟨i, rfl, hk⟩ | ⟨⟨t, ty, kt | ⟨kt, kb⟩⟩, hk⟩
    · skip
      refine ⟨_, (pss_one (ps_ret (pe_and (pe_callB (Rd.isi (K := K) rfl) (by rfl) T.n_isinstance (by decide +kernel) (pa_cons (pv 0) (pa_cons (pe_bltn (v := .ty "int") (u := .type "int") (by rfl) T.n_int (by decide +kernel) rfl) pa_nil))) (pe_one (pe_not (pe_callB (Rd.isi (K := K) rfl) (by rfl) T.n_isinstance (by decide +kernel) (pa_cons (pv 0) (pa_cons (pe_bltn (v := .ty "bool") (u := .type "bool") (by rfl) T.n_bool (by decide +kernel) rfl) pa_nil)))))))), ?_⟩
      try dsimp only [L2.cxOf, L2.Cx.nox, L2.Cx.wish]
      with_reducible refine Rd.ret (Rd.andV (Rd.cB (Rd.cons (Rd.var (by walk_at "vr") (Rd.cons (Rd.c (Rd.nil ?_)))))))
      refine ⟨_, _, _, _, _, rfl, (by walk_at "clsv"), (by walk_at "tyx"), (by walk_at "kit"), ?_⟩
      with_reducible refine Rd.bl (Rd.iteT (by first | with_unfolding_all rfl | walk_at "bT") (Rd.notV (Rd.cB (Rd.cons (Rd.var (by walk_at "vr") (Rd.cons (Rd.c (Rd.nil ?_))))))))
      refine ⟨_, _, _, _, _, rfl, (by walk_at "clsv"), (by walk_at "tyx"), (by walk_at "kit"), ?_⟩
      with_reducible refine Rd.bl ?_
      exact hk
    · skip
      refine ⟨_, (pss_one (ps_ret (pe_and (pe_callB (Rd.isi (K := K) rfl) (by rfl) T.n_isinstance (by decide +kernel) (pa_cons (pv 0) (pa_cons (pe_bltn (v := .ty "int") (u := .type "int") (by rfl) T.n_int (by decide +kernel) rfl) pa_nil))) (pe_one Rd.peN)))), ?_⟩
      try dsimp only [L2.cxOf, L2.Cx.nox, L2.Cx.wish]
      with_reducible refine Rd.ret (Rd.andV (Rd.cB (Rd.cons (Rd.var (by walk_at "vr") (Rd.cons (Rd.c (Rd.nil ?_)))))))
      refine ⟨_, _, _, _, _, rfl, (by walk_at "clsv"), (by walk_at "tyx"), (by walk_at "kit"), ?_⟩
      with_reducible refine Rd.bl (Rd.iteF (by walk_at "bF") ?_)
      exact hk
    · skip
      refine ⟨_, (pss_one (ps_ret (pe_and (pe_callB (Rd.isi (K := K) rfl) (by rfl) T.n_isinstance (by decide +kernel) (pa_cons (pv 0) (pa_cons (pe_bltn (v := .ty "int") (u := .type "int") (by rfl) T.n_int (by decide +kernel) rfl) pa_nil))) (pe_one (pe_not (pe_callB (Rd.isi (K := K) rfl) (by rfl) T.n_isinstance (by decide +kernel) (pa_cons (pv 0) (pa_cons (pe_bltn (v := .ty "bool") (u := .type "bool") (by rfl) T.n_bool (by decide +kernel) rfl) pa_nil)))))))), ?_⟩
      try dsimp only [L2.cxOf, L2.Cx.nox, L2.Cx.wish]
      with_reducible refine Rd.ret (Rd.andV (Rd.cB (Rd.cons (Rd.var (by walk_at "vr") (Rd.cons (Rd.c (Rd.nil ?_)))))))
      refine ⟨_, _, _, _, _, rfl, (by walk_at "clsv"), (by walk_at "tyx"), (by walk_at "kit"), ?_⟩
      with_reducible refine Rd.bl (Rd.iteT (by walk_at "bT") (Rd.notV (Rd.cB (Rd.cons (Rd.var (by walk_at "vr") (Rd.cons (Rd.c (Rd.nil ?_))))))))
      refine ⟨_, _, _, _, _, rfl, (by walk_at "clsv"), (by walk_at "tyx"), (by walk_at "kit"), ?_⟩
      with_reducible refine Rd.bl ?_
      exact hk
/-! is_whole_from -/
theorem sc_is_whole_from : FnScope ["thing", "low", "high"] ["thing", "low", "high"] (defScope s_is_whole_from) := ⟨rfl, rfl, rfl, by decide +kernel, rfl, by decide +kernel, by decide +kernel⟩
abbrev sp_is_whole_from (K : PySem.W.Frag) (A : Adr) : Sp := fun vs H Q _ => ∃ (y : V) (lo hi : Int), vs = [y, .int lo, .int hi] ∧ ((∃ i : Int, y = .int i ∧ lo ≤ i ∧ i ≤ hi ∧ Q (.bl true) H) ∨ (∃ i : Int, y = .int i ∧ i < lo ∧ Q (.bl false) H) ∨ (∃ i : Int, y = .int i ∧ lo ≤ i ∧ hi < i ∧ Q (.bl false) H) ∨ (Odd K H y ∧ Q (.bl false) H))
theorem ok_is_whole_from (T : Txt w K mg A) : FnOk P w K mg base CX0 2 A.f_is_whole_from A.d_is_whole_from ["thing", "low", "high"] (sp_is_whole_from K A) := by
  refine T.F_is_whole_from.ok sc_is_whole_from (fun vs H Q E h => ?_) (fun cdv Ar outer s H vs Q E hr h => ?_)
  · obtain ⟨y, lo, hi, rfl, hy⟩ := h
    rfl
  · obtain ⟨y, lo, hi, rfl, hy⟩ := h
    have hu := hu_of hr
    have t_i_SizeSet := T.i_SizeSet
    have t_kt_NoneType_SizeSet := T.kt_NoneType_SizeSet
    have t_kt_int_SizeSet := T.kt_int_SizeSet
    have t_kt_bool_SizeSet := T.kt_bool_SizeSet
    have t_kt_str_SizeSet := T.kt_str_SizeSet
    have t_kt_tuple_SizeSet := T.kt_tuple_SizeSet
    have t_kt_list_SizeSet := T.kt_list_SizeSet
    have t_kt_dict_SizeSet := T.kt_dict_SizeSet
    have t_kt_SizeSet_SizeSet := T.kt_SizeSet_SizeSet
    have t_nf_SizeSet_SizeSet := T.nf_SizeSet_SizeSet
    have t_nf_NoneType_SizeSet := T.nf_NoneType_SizeSet
    have t_nf_int_SizeSet := T.nf_int_SizeSet
    have t_nf_bool_SizeSet := T.nf_bool_SizeSet
    have t_nf_str_SizeSet := T.nf_str_SizeSet
    have t_nf_tuple_SizeSet := T.nf_tuple_SizeSet
    have t_nf_list_SizeSet := T.nf_list_SizeSet
    have t_nf_dict_SizeSet := T.nf_dict_SizeSet
    have t_kt_NoSet_in_NoForm := T.kt_NoSet_in_NoForm
    have t_kt_NoSet_in_NoCounter := T.kt_NoSet_in_NoCounter
    have t_kt_NoSet_in_NoScheme := T.kt_NoSet_in_NoScheme
    have t_kt_NoSet_in_NoSize := T.kt_NoSet_in_NoSize
    have t_kt_NoSet_in_NoRing := T.kt_NoSet_in_NoRing
    have t_kt_NoSet_in_Outside := T.kt_NoSet_in_Outside
    have t_kt_NoSet_in_NoRun := T.kt_NoSet_in_NoRun
    have t_kt_NoSet_in_NoSet := T.kt_NoSet_in_NoSet
    have t_kt_NoSet_in_TooLong := T.kt_NoSet_in_TooLong
    have t_kt_NoSet_in_VE := T.kt_NoSet_in_VE
    have t_xm_NoSet := T.xm_NoSet
    have t_kt_TooLong_in_NoForm := T.kt_TooLong_in_NoForm
    have t_kt_TooLong_in_NoCounter := T.kt_TooLong_in_NoCounter
    have t_kt_TooLong_in_NoScheme := T.kt_TooLong_in_NoScheme
    have t_kt_TooLong_in_NoSize := T.kt_TooLong_in_NoSize
    have t_kt_TooLong_in_NoRing := T.kt_TooLong_in_NoRing
    have t_kt_TooLong_in_Outside := T.kt_TooLong_in_Outside
    have t_kt_TooLong_in_NoRun := T.kt_TooLong_in_NoRun
    have t_kt_TooLong_in_NoSet := T.kt_TooLong_in_NoSet
    have t_kt_TooLong_in_TooLong := T.kt_TooLong_in_TooLong
    have t_kt_TooLong_in_VE := T.kt_TooLong_in_VE
    have t_xm_TooLong := T.xm_TooLong
    have t_k_SizeSet := T.k_SizeSet
    rcases hy with ⟨i, rfl, h1, h2, hk⟩ | ⟨i, rfl, h1, hk⟩ | ⟨i, rfl, h1, h2, hk⟩ | ⟨ho, hk⟩
    · skip
      refine ⟨_, (pss_one (ps_ret (pe_and (pe_call (ok_is_whole T) (hr.mono (by decide)) (by rfl) T.m_is_whole T.F_is_whole.kp T.b_is_whole .nil pass0 (pa_cons (pv 0) pa_nil)) (pe_one (pe_chain op_le op_le (pv 1) (pv 0) (pv 2)))))), ?_⟩
      try dsimp only [L2.cxOf, L2.Cx.nox, L2.Cx.wish]
      with_reducible refine Rd.ret (Rd.andV (Rd.call (Rd.cons (Rd.var (by walk_at "vr") (Rd.nil ?_)))))
      refine ⟨_, rfl, .inl ⟨_, rfl, ?_⟩⟩
      with_reducible refine Rd.bl (Rd.iteT (by walk_at "bT") (Rd.chain (Rd.var (by walk_at "vr") (Rd.var (by walk_at "vr") (Rd.i0 (Rd.bl (Rd.iteT (by walk_at "bT") (Rd.var (by walk_at "vr") (Rd.i0 ?_)))))))))
      rw [decide_eq_true h2]
      exact hk
    · skip
      refine ⟨_, (pss_one (ps_ret (pe_and (pe_call (ok_is_whole T) (hr.mono (by decide)) (by rfl) T.m_is_whole T.F_is_whole.kp T.b_is_whole .nil pass0 (pa_cons (pv 0) pa_nil)) (pe_one (pe_chain op_le op_le (pv 1) (pv 0) Rd.peN))))), ?_⟩
      try dsimp only [L2.cxOf, L2.Cx.nox, L2.Cx.wish]
      with_reducible refine Rd.ret (Rd.andV (Rd.call (Rd.cons (Rd.var (by walk_at "vr") (Rd.nil ?_)))))
      refine ⟨_, rfl, .inl ⟨_, rfl, ?_⟩⟩
      with_reducible refine Rd.bl (Rd.iteT (by walk_at "bT") (Rd.chain (Rd.var (by walk_at "vr") (Rd.var (by walk_at "vr") (Rd.i0 (Rd.bl (Rd.iteF (by walk_at "bF") ?_)))))))
      exact hk
    · skip
      refine ⟨_, (pss_one (ps_ret (pe_and (pe_call (ok_is_whole T) (hr.mono (by decide)) (by rfl) T.m_is_whole T.F_is_whole.kp T.b_is_whole .nil pass0 (pa_cons (pv 0) pa_nil)) (pe_one (pe_chain op_le op_le (pv 1) (pv 0) (pv 2)))))), ?_⟩
      try dsimp only [L2.cxOf, L2.Cx.nox, L2.Cx.wish]
      with_reducible refine Rd.ret (Rd.andV (Rd.call (Rd.cons (Rd.var (by walk_at "vr") (Rd.nil ?_)))))
      refine ⟨_, rfl, .inl ⟨_, rfl, ?_⟩⟩
      with_reducible refine Rd.bl (Rd.iteT (by walk_at "bT") (Rd.chain (Rd.var (by walk_at "vr") (Rd.var (by walk_at "vr") (Rd.i0 (Rd.bl (Rd.iteT (by walk_at "bT") (Rd.var (by walk_at "vr") (Rd.i0 ?_)))))))))
      rw [decide_eq_false (by omega)]
      exact hk
    · skip
      refine ⟨_, (pss_one (ps_ret (pe_and (pe_call (ok_is_whole T) (hr.mono (by decide)) (by rfl) T.m_is_whole T.F_is_whole.kp T.b_is_whole .nil pass0 (pa_cons (pv 0) pa_nil)) (pe_one Rd.peN)))), ?_⟩
      try dsimp only [L2.cxOf, L2.Cx.nox, L2.Cx.wish]
      with_reducible refine Rd.ret (Rd.andV (Rd.call (Rd.cons (Rd.var (by walk_at "vr") (Rd.nil ?_)))))
      refine ⟨_, rfl, .inr ⟨(by with_reducible assumption), ?_⟩⟩
      with_reducible refine Rd.bl (Rd.iteF (by walk_at "bF") ?_)
      exact hk
/-! is_ascending -/
theorem sc_is_ascending : FnScope ["thing", "low", "high", "least", "number"] ["thing", "low", "high"] (defScope s_is_ascending) := ⟨rfl, rfl, rfl, by decide +kernel, rfl, by decide +kernel, by decide +kernel⟩
theorem st_is_ascending {v0 v1 v2 : V} : L2.start ["thing", "low", "high", "least", "number"] [v0, v1, v2] = [some v0, some v1, some v2, none, none] := rfl
abbrev sp_is_ascending (K : PySem.W.Frag) (A : Adr) : Sp := fun vs H Q _ => ∃ (v : V) (lo hi : Int), vs = [v, .int lo, .int hi] ∧ ((IsAsc H v lo hi ∧ Q (.bl true) H) ∨ (NotAsc K H v lo hi ∧ Q (.bl false) H))
theorem ok_is_ascending (T : Txt w K mg A) : FnOk P w K mg base CX0 3 A.f_is_ascending A.d_is_ascending ["thing", "low", "high"] (sp_is_ascending K A) := by
  refine T.F_is_ascending.ok sc_is_ascending (fun vs H Q E h => ?_) (fun cdv Ar outer s H vs Q E hr h => ?_)
  · obtain ⟨v, lo, hi, rfl, hy⟩ := h
    rfl
  · obtain ⟨v, lo, hi, rfl, hy⟩ := h
    have hu := hu_of hr
    have t_i_SizeSet := T.i_SizeSet
    have t_kt_NoneType_SizeSet := T.kt_NoneType_SizeSet
    have t_kt_int_SizeSet := T.kt_int_SizeSet
    have t_kt_bool_SizeSet := T.kt_bool_SizeSet
    have t_kt_str_SizeSet := T.kt_str_SizeSet
    have t_kt_tuple_SizeSet := T.kt_tuple_SizeSet
    have t_kt_list_SizeSet := T.kt_list_SizeSet
    have t_kt_dict_SizeSet := T.kt_dict_SizeSet
    have t_kt_SizeSet_SizeSet := T.kt_SizeSet_SizeSet
    have t_nf_SizeSet_SizeSet := T.nf_SizeSet_SizeSet
    have t_nf_NoneType_SizeSet := T.nf_NoneType_SizeSet
    have t_nf_int_SizeSet := T.nf_int_SizeSet
    have t_nf_bool_SizeSet := T.nf_bool_SizeSet
    have t_nf_str_SizeSet := T.nf_str_SizeSet
    have t_nf_tuple_SizeSet := T.nf_tuple_SizeSet
    have t_nf_list_SizeSet := T.nf_list_SizeSet
    have t_nf_dict_SizeSet := T.nf_dict_SizeSet
    have t_kt_NoSet_in_NoForm := T.kt_NoSet_in_NoForm
    have t_kt_NoSet_in_NoCounter := T.kt_NoSet_in_NoCounter
    have t_kt_NoSet_in_NoScheme := T.kt_NoSet_in_NoScheme
    have t_kt_NoSet_in_NoSize := T.kt_NoSet_in_NoSize
    have t_kt_NoSet_in_NoRing := T.kt_NoSet_in_NoRing
    have t_kt_NoSet_in_Outside := T.kt_NoSet_in_Outside
    have t_kt_NoSet_in_NoRun := T.kt_NoSet_in_NoRun
    have t_kt_NoSet_in_NoSet := T.kt_NoSet_in_NoSet
    have t_kt_NoSet_in_TooLong := T.kt_NoSet_in_TooLong
    have t_kt_NoSet_in_VE := T.kt_NoSet_in_VE
    have t_xm_NoSet := T.xm_NoSet
    have t_kt_TooLong_in_NoForm := T.kt_TooLong_in_NoForm
    have t_kt_TooLong_in_NoCounter := T.kt_TooLong_in_NoCounter
    have t_kt_TooLong_in_NoScheme := T.kt_TooLong_in_NoScheme
    have t_kt_TooLong_in_NoSize := T.kt_TooLong_in_NoSize
    have t_kt_TooLong_in_NoRing := T.kt_TooLong_in_NoRing
    have t_kt_TooLong_in_Outside := T.kt_TooLong_in_Outside
    have t_kt_TooLong_in_NoRun := T.kt_TooLong_in_NoRun
    have t_kt_TooLong_in_NoSet := T.kt_TooLong_in_NoSet
    have t_kt_TooLong_in_TooLong := T.kt_TooLong_in_TooLong
    have t_kt_TooLong_in_VE := T.kt_TooLong_in_VE
    have t_xm_TooLong := T.xm_TooLong
    have t_k_SizeSet := T.k_SizeSet
    rcases hy with ⟨⟨l, ns, rfl, hl, hA⟩, k⟩ | ⟨⟨t, ty, kt⟩ | ⟨l, x, rfl, hl, ⟨i, rfl, hb⟩ | ⟨i, rfl, hb, hb'⟩ | hb⟩ | ⟨l, j, x, rfl, hl, j0, j1, ⟨i, rfl, hb⟩ | ⟨i, rfl, hb, hb'⟩ | hb⟩, k⟩
    · skip
      refine ⟨_, (pss_cons (ps_if (pt_not (pt_val (pe_callB (Rd.isi (K := K) rfl) (by rfl) T.n_isinstance (by decide +kernel) (pa_cons (pv 0) (pa_cons (pe_bltn (v := .ty "list") (u := .type "list") (by rfl) T.n_list (by decide +kernel) rfl) pa_nil))))) (pss_one ps_never) pss_nil)
      (pss_cons (ps_set (i := 3) sc_is_ascending.nd rfl (Or.inl rfl) (pv 1))
      (pss_cons (ps_for PassesOwn.never rfl (pi_list (pv 0)) (pg_name (i := 4) sc_is_ascending.nd rfl (Or.inl rfl)) (pss_cons (ps_if (pt_not (pt_val (pe_call (ok_is_whole_from T) (hr.mono (by decide)) (by rfl) T.m_is_whole_from T.F_is_whole_from.kp T.b_is_whole_from .nil pass0 (pa_cons (pv 4) (pa_cons (pv 3) (pa_cons (pv 2) pa_nil)))))) (pss_one ps_never) pss_nil)
      (pss_one (ps_set (i := 3) sc_is_ascending.nd rfl (Or.inl rfl) (pe_op op_add (pv 4) pe_int)))))
      (pss_one (ps_ret pe_bl))))), ?_⟩
      try dsimp only [L2.cxOf, L2.Cx.nox, L2.Cx.wish]
      try rw [st_is_ascending]
      with_reducible refine Rd.seq (Rd.ifS (Rd.not (Rd.tb (Rd.cB (Rd.cons (Rd.var (by walk_at "vr") (Rd.cons (Rd.c (Rd.nil ?_)))))))))
      refine ⟨_, _, _, _, _, rfl, (by walk_at "clsv"), (by walk_at "tyx"), (by walk_at "kit"), ?_⟩
      with_reducible refine Rd.bl (Rd.iteF (by first | with_unfolding_all rfl | walk_at "bF") (Rd.next (Rd.seq (Rd.asg (Rd.var (by walk_at "vr") (Rd.name ?_))))))
      try dsimp only [Int.reduceToNat, List.set]
      with_reducible refine Rd.seq (Rd.fr (Rd.il (Rd.var (by walk_at "vr") (⟨_, rfl, ?_⟩))))
      refine ⟨⟨_, (by walk_at "hpl")⟩, for_list (xs := ns.map V.int) (fun (i : Nat) (σ : L2.St) (H' : Hp) => ∃ (lt : Int) (v4 : Option V), σ = [some (.ref l), some (.int lo), some (.int hi), some (.int lt), v4] ∧ H' = H ∧ Asc hi lt (ns.drop i)) ⟨_, _, rfl, rfl, hA⟩ (fun j σ H0 hj ⟨lt, v4, es, eh, hB⟩ => .of (by rw [eh]; exact hl)) (fun j x σ H0 hx ⟨lt, v4, es, eh, hB⟩ => ?_) (fun σ H0 ⟨lt, v4, es, eh, hB⟩ => ?_)⟩
      · subst es eh
        rw [List.getElem?_map] at hx
        obtain ⟨n, hn, rfl⟩ := Option.map_eq_some_iff.mp hx
        rw [drop_atI hn] at hB
        obtain ⟨b0, b1, hC⟩ := hB
        with_reducible refine Rd.name (Rd.seq (Rd.ifS (Rd.not (Rd.tb (Rd.call (Rd.cons (Rd.var (by walk_at "vr") (Rd.cons (Rd.var (by walk_at "vr") (Rd.cons (Rd.var (by walk_at "vr") ?_)))))))))))
        with_reducible refine Rd.nil ?_
        refine ⟨_, _, _, rfl, .inl ⟨_, rfl, (by walk_at "sc"), (by walk_at "sc"), ?_⟩⟩
        with_reducible refine Rd.bl (Rd.iteF (by walk_at "bF") (Rd.next (Rd.asg (Rd.op (Rd.var (by walk_at "vr") (Rd.c (Rd.i0 (Rd.name ?_))))))))
        try dsimp only [Int.reduceToNat, List.set]
        exact ⟨_, _, rfl, rfl, hC⟩
      · subst es eh
        with_reducible refine Rd.ret (Rd.c ?_)
        exact k
    · skip
      refine ⟨_, (pss_cons (ps_if (pt_not (pt_val (pe_callB (Rd.isi (K := K) rfl) (by rfl) T.n_isinstance (by decide +kernel) (pa_cons (pv 0) (pa_cons (pe_bltn (v := .ty "list") (u := .type "list") (by rfl) T.n_list (by decide +kernel) rfl) pa_nil))))) (pss_one (ps_ret pe_bl)) pss_nil)
      (pss_cons ps_never (pss_cons ps_never (pss_one ps_never)))), ?_⟩
      try dsimp only [L2.cxOf, L2.Cx.nox, L2.Cx.wish]
      try rw [st_is_ascending]
      with_reducible refine Rd.seq (Rd.ifS (Rd.not (Rd.tb (Rd.cB (Rd.cons (Rd.var (by walk_at "vr") (Rd.cons (Rd.c (Rd.nil ?_)))))))))
      refine ⟨_, _, _, _, _, rfl, (by walk_at "clsv"), (by walk_at "tyx"), (by walk_at "kit"), ?_⟩
      with_reducible refine Rd.bl (Rd.iteT (by walk_at "bT") (Rd.ret (Rd.c ?_)))
      exact k
    · skip
      refine ⟨_, (pss_cons (ps_if (pt_not (pt_val (pe_callB (Rd.isi (K := K) rfl) (by rfl) T.n_isinstance (by decide +kernel) (pa_cons (pv 0) (pa_cons (pe_bltn (v := .ty "list") (u := .type "list") (by rfl) T.n_list (by decide +kernel) rfl) pa_nil))))) (pss_one ps_never) pss_nil)
      (pss_cons (ps_set (i := 3) sc_is_ascending.nd rfl (Or.inl rfl) (pv 1))
      (pss_cons (ps_for PassesOwn.never rfl (pi_list (pv 0)) (pg_name (i := 4) sc_is_ascending.nd rfl (Or.inl rfl)) (pss_cons (ps_if (pt_not (pt_val (pe_call (ok_is_whole_from T) (hr.mono (by decide)) (by rfl) T.m_is_whole_from T.F_is_whole_from.kp T.b_is_whole_from .nil pass0 (pa_cons (pv 4) (pa_cons (pv 3) (pa_cons (pv 2) pa_nil)))))) (pss_one (ps_ret pe_bl)) pss_nil)
      (pss_one ps_never)))
      (pss_one ps_never)))), ?_⟩
      try dsimp only [L2.cxOf, L2.Cx.nox, L2.Cx.wish]
      try rw [st_is_ascending]
      with_reducible refine Rd.seq (Rd.ifS (Rd.not (Rd.tb (Rd.cB (Rd.cons (Rd.var (by walk_at "vr") (Rd.cons (Rd.c (Rd.nil ?_)))))))))
      refine ⟨_, _, _, _, _, rfl, (by walk_at "clsv"), (by walk_at "tyx"), (by walk_at "kit"), ?_⟩
      with_reducible refine Rd.bl (Rd.iteF (by walk_at "bF") (Rd.next (Rd.seq (Rd.asg (Rd.var (by walk_at "vr") (Rd.name ?_))))))
      try dsimp only [Int.reduceToNat, List.set]
      with_reducible refine Rd.seq (Rd.fr (Rd.il (Rd.var (by walk_at "vr") (⟨_, rfl, ?_⟩))))
      refine Rd.unroll2 (by walk_at "hpl") ?_
      refine Rd.unrCons ?_
      with_reducible refine Rd.name ?_
      dsimp only [List.set]
      with_reducible refine Rd.seq (Rd.ifS (Rd.not (Rd.tb (Rd.call (Rd.cons (Rd.var (by walk_at "vr") (Rd.cons (Rd.var (by walk_at "vr") (Rd.cons (Rd.var (by walk_at "vr") (Rd.nil ?_)))))))))))
      refine ⟨_, _, _, rfl, .inr (.inl ⟨_, rfl, (by walk_at "sc"), ?_⟩)⟩
      with_reducible refine Rd.bl (Rd.iteT (by walk_at "bT") (Rd.ret (Rd.c ?_)))
      exact k
    · skip
      refine ⟨_, (pss_cons (ps_if (pt_not (pt_val (pe_callB (Rd.isi (K := K) rfl) (by rfl) T.n_isinstance (by decide +kernel) (pa_cons (pv 0) (pa_cons (pe_bltn (v := .ty "list") (u := .type "list") (by rfl) T.n_list (by decide +kernel) rfl) pa_nil))))) (pss_one ps_never) pss_nil)
      (pss_cons (ps_set (i := 3) sc_is_ascending.nd rfl (Or.inl rfl) (pv 1))
      (pss_cons (ps_for PassesOwn.never rfl (pi_list (pv 0)) (pg_name (i := 4) sc_is_ascending.nd rfl (Or.inl rfl)) (pss_cons (ps_if (pt_not (pt_val (pe_call (ok_is_whole_from T) (hr.mono (by decide)) (by rfl) T.m_is_whole_from T.F_is_whole_from.kp T.b_is_whole_from .nil pass0 (pa_cons (pv 4) (pa_cons (pv 3) (pa_cons (pv 2) pa_nil)))))) (pss_one (ps_ret pe_bl)) pss_nil)
      (pss_one ps_never)))
      (pss_one ps_never)))), ?_⟩
      try dsimp only [L2.cxOf, L2.Cx.nox, L2.Cx.wish]
      try rw [st_is_ascending]
      with_reducible refine Rd.seq (Rd.ifS (Rd.not (Rd.tb (Rd.cB (Rd.cons (Rd.var (by walk_at "vr") (Rd.cons (Rd.c (Rd.nil ?_)))))))))
      refine ⟨_, _, _, _, _, rfl, (by walk_at "clsv"), (by walk_at "tyx"), (by walk_at "kit"), ?_⟩
      with_reducible refine Rd.bl (Rd.iteF (by walk_at "bF") (Rd.next (Rd.seq (Rd.asg (Rd.var (by walk_at "vr") (Rd.name ?_))))))
      try dsimp only [Int.reduceToNat, List.set]
      with_reducible refine Rd.seq (Rd.fr (Rd.il (Rd.var (by walk_at "vr") (⟨_, rfl, ?_⟩))))
      refine Rd.unroll2 (by walk_at "hpl") ?_
      refine Rd.unrCons ?_
      with_reducible refine Rd.name ?_
      dsimp only [List.set]
      with_reducible refine Rd.seq (Rd.ifS (Rd.not (Rd.tb (Rd.call (Rd.cons (Rd.var (by walk_at "vr") (Rd.cons (Rd.var (by walk_at "vr") (Rd.cons (Rd.var (by walk_at "vr") (Rd.nil ?_)))))))))))
      refine ⟨_, _, _, rfl, .inr (.inr (.inl ⟨_, rfl, (by walk_at "sc"), (by walk_at "sc"), ?_⟩))⟩
      with_reducible refine Rd.bl (Rd.iteT (by walk_at "bT") (Rd.ret (Rd.c ?_)))
      exact k
    · skip
      refine ⟨_, (pss_cons (ps_if (pt_not (pt_val (pe_callB (Rd.isi (K := K) rfl) (by rfl) T.n_isinstance (by decide +kernel) (pa_cons (pv 0) (pa_cons (pe_bltn (v := .ty "list") (u := .type "list") (by rfl) T.n_list (by decide +kernel) rfl) pa_nil))))) (pss_one ps_never) pss_nil)
      (pss_cons (ps_set (i := 3) sc_is_ascending.nd rfl (Or.inl rfl) (pv 1))
      (pss_cons (ps_for PassesOwn.never rfl (pi_list (pv 0)) (pg_name (i := 4) sc_is_ascending.nd rfl (Or.inl rfl)) (pss_cons (ps_if (pt_not (pt_val (pe_call (ok_is_whole_from T) (hr.mono (by decide)) (by rfl) T.m_is_whole_from T.F_is_whole_from.kp T.b_is_whole_from .nil pass0 (pa_cons (pv 4) (pa_cons (pv 3) (pa_cons (pv 2) pa_nil)))))) (pss_one (ps_ret pe_bl)) pss_nil)
      (pss_one ps_never)))
      (pss_one ps_never)))), ?_⟩
      try dsimp only [L2.cxOf, L2.Cx.nox, L2.Cx.wish]
      try rw [st_is_ascending]
      with_reducible refine Rd.seq (Rd.ifS (Rd.not (Rd.tb (Rd.cB (Rd.cons (Rd.var (by walk_at "vr") (Rd.cons (Rd.c (Rd.nil ?_)))))))))
      refine ⟨_, _, _, _, _, rfl, (by walk_at "clsv"), (by walk_at "tyx"), (by walk_at "kit"), ?_⟩
      with_reducible refine Rd.bl (Rd.iteF (by walk_at "bF") (Rd.next (Rd.seq (Rd.asg (Rd.var (by walk_at "vr") (Rd.name ?_))))))
      try dsimp only [Int.reduceToNat, List.set]
      with_reducible refine Rd.seq (Rd.fr (Rd.il (Rd.var (by walk_at "vr") (⟨_, rfl, ?_⟩))))
      refine Rd.unroll2 (by walk_at "hpl") ?_
      refine Rd.unrCons ?_
      with_reducible refine Rd.name ?_
      dsimp only [List.set]
      with_reducible refine Rd.seq (Rd.ifS (Rd.not (Rd.tb (Rd.call (Rd.cons (Rd.var (by walk_at "vr") (Rd.cons (Rd.var (by walk_at "vr") (Rd.cons (Rd.var (by walk_at "vr") (Rd.nil ?_)))))))))))
      refine ⟨_, _, _, rfl, .inr (.inr (.inr ⟨(by with_reducible assumption), ?_⟩))⟩
      with_reducible refine Rd.bl (Rd.iteT (by walk_at "bT") (Rd.ret (Rd.c ?_)))
      exact k
    · skip
      refine ⟨_, (pss_cons (ps_if (pt_not (pt_val (pe_callB (Rd.isi (K := K) rfl) (by rfl) T.n_isinstance (by decide +kernel) (pa_cons (pv 0) (pa_cons (pe_bltn (v := .ty "list") (u := .type "list") (by rfl) T.n_list (by decide +kernel) rfl) pa_nil))))) (pss_one ps_never) pss_nil)
      (pss_cons (ps_set (i := 3) sc_is_ascending.nd rfl (Or.inl rfl) (pv 1))
      (pss_cons (ps_for PassesOwn.never rfl (pi_list (pv 0)) (pg_name (i := 4) sc_is_ascending.nd rfl (Or.inl rfl)) (pss_cons (ps_if (pt_not (pt_val (pe_call (ok_is_whole_from T) (hr.mono (by decide)) (by rfl) T.m_is_whole_from T.F_is_whole_from.kp T.b_is_whole_from .nil pass0 (pa_cons (pv 4) (pa_cons (pv 3) (pa_cons (pv 2) pa_nil)))))) (pss_one (ps_ret pe_bl)) pss_nil) (pss_one (ps_set (i := 3) sc_is_ascending.nd rfl (Or.inl rfl) (pe_op op_add (pv 4) pe_int)))))
      (pss_one ps_never)))), ?_⟩
      try dsimp only [L2.cxOf, L2.Cx.nox, L2.Cx.wish]
      try rw [st_is_ascending]
      with_reducible refine Rd.seq (Rd.ifS (Rd.not (Rd.tb (Rd.cB (Rd.cons (Rd.var (by walk_at "vr") (Rd.cons (Rd.c (Rd.nil ?_)))))))))
      refine ⟨_, _, _, _, _, rfl, (by walk_at "clsv"), (by walk_at "tyx"), (by walk_at "kit"), ?_⟩
      with_reducible refine Rd.bl (Rd.iteF (by walk_at "bF") (Rd.next (Rd.seq (Rd.asg (Rd.var (by walk_at "vr") (Rd.name ?_))))))
      try dsimp only [Int.reduceToNat, List.set]
      with_reducible refine Rd.seq (Rd.fr (Rd.il (Rd.var (by walk_at "vr") (⟨_, rfl, ?_⟩))))
      refine Rd.unroll2 (by walk_at "hpl") ?_
      refine Rd.unrCons ?_
      with_reducible refine Rd.name ?_
      dsimp only [List.set]
      with_reducible refine Rd.seq (Rd.ifS (Rd.not (Rd.tb (Rd.call (Rd.cons (Rd.var (by walk_at "vr") (Rd.cons (Rd.var (by walk_at "vr") (Rd.cons (Rd.var (by walk_at "vr") (Rd.nil ?_)))))))))))
      refine ⟨_, _, _, rfl, .inl ⟨_, rfl, (by walk_at "sc"), (by walk_at "sc"), ?_⟩⟩
      with_reducible refine Rd.bl (Rd.iteF (by walk_at "bF") (Rd.next (Rd.asg (Rd.op (Rd.var (by walk_at "vr") (Rd.c (Rd.i0 (Rd.name ?_))))))))
      try dsimp only [Int.reduceToNat, List.set]
      refine ⟨by walk_at "hpl", ?_⟩
      refine Rd.unrCons ?_
      with_reducible refine Rd.name ?_
      dsimp only [List.set]
      with_reducible refine Rd.seq (Rd.ifS (Rd.not (Rd.tb (Rd.call (Rd.cons (Rd.var (by walk_at "vr") (Rd.cons (Rd.var (by walk_at "vr") (Rd.cons (Rd.var (by walk_at "vr") (Rd.nil ?_)))))))))))
      refine ⟨_, _, _, rfl, .inr (.inl ⟨_, rfl, (by walk_at "sc"), ?_⟩)⟩
      with_reducible refine Rd.bl (Rd.iteT (by walk_at "bT") (Rd.ret (Rd.c ?_)))
      exact k
    · skip
      refine ⟨_, (pss_cons (ps_if (pt_not (pt_val (pe_callB (Rd.isi (K := K) rfl) (by rfl) T.n_isinstance (by decide +kernel) (pa_cons (pv 0) (pa_cons (pe_bltn (v := .ty "list") (u := .type "list") (by rfl) T.n_list (by decide +kernel) rfl) pa_nil))))) (pss_one ps_never) pss_nil)
      (pss_cons (ps_set (i := 3) sc_is_ascending.nd rfl (Or.inl rfl) (pv 1))
      (pss_cons (ps_for PassesOwn.never rfl (pi_list (pv 0)) (pg_name (i := 4) sc_is_ascending.nd rfl (Or.inl rfl)) (pss_cons (ps_if (pt_not (pt_val (pe_call (ok_is_whole_from T) (hr.mono (by decide)) (by rfl) T.m_is_whole_from T.F_is_whole_from.kp T.b_is_whole_from .nil pass0 (pa_cons (pv 4) (pa_cons (pv 3) (pa_cons (pv 2) pa_nil)))))) (pss_one (ps_ret pe_bl)) pss_nil) (pss_one (ps_set (i := 3) sc_is_ascending.nd rfl (Or.inl rfl) (pe_op op_add (pv 4) pe_int)))))
      (pss_one ps_never)))), ?_⟩
      try dsimp only [L2.cxOf, L2.Cx.nox, L2.Cx.wish]
      try rw [st_is_ascending]
      with_reducible refine Rd.seq (Rd.ifS (Rd.not (Rd.tb (Rd.cB (Rd.cons (Rd.var (by walk_at "vr") (Rd.cons (Rd.c (Rd.nil ?_)))))))))
      refine ⟨_, _, _, _, _, rfl, (by walk_at "clsv"), (by walk_at "tyx"), (by walk_at "kit"), ?_⟩
      with_reducible refine Rd.bl (Rd.iteF (by walk_at "bF") (Rd.next (Rd.seq (Rd.asg (Rd.var (by walk_at "vr") (Rd.name ?_))))))
      try dsimp only [Int.reduceToNat, List.set]
      with_reducible refine Rd.seq (Rd.fr (Rd.il (Rd.var (by walk_at "vr") (⟨_, rfl, ?_⟩))))
      refine Rd.unroll2 (by walk_at "hpl") ?_
      refine Rd.unrCons ?_
      with_reducible refine Rd.name ?_
      dsimp only [List.set]
      with_reducible refine Rd.seq (Rd.ifS (Rd.not (Rd.tb (Rd.call (Rd.cons (Rd.var (by walk_at "vr") (Rd.cons (Rd.var (by walk_at "vr") (Rd.cons (Rd.var (by walk_at "vr") (Rd.nil ?_)))))))))))
      refine ⟨_, _, _, rfl, .inl ⟨_, rfl, (by walk_at "sc"), (by walk_at "sc"), ?_⟩⟩
      with_reducible refine Rd.bl (Rd.iteF (by walk_at "bF") (Rd.next (Rd.asg (Rd.op (Rd.var (by walk_at "vr") (Rd.c (Rd.i0 (Rd.name ?_))))))))
      try dsimp only [Int.reduceToNat, List.set]
      refine ⟨by walk_at "hpl", ?_⟩
      refine Rd.unrCons ?_
      with_reducible refine Rd.name ?_
      dsimp only [List.set]
      with_reducible refine Rd.seq (Rd.ifS (Rd.not (Rd.tb (Rd.call (Rd.cons (Rd.var (by walk_at "vr") (Rd.cons (Rd.var (by walk_at "vr") (Rd.cons (Rd.var (by walk_at "vr") (Rd.nil ?_)))))))))))
      refine ⟨_, _, _, rfl, .inr (.inr (.inl ⟨_, rfl, (by walk_at "sc"), (by walk_at "sc"), ?_⟩))⟩
      with_reducible refine Rd.bl (Rd.iteT (by walk_at "bT") (Rd.ret (Rd.c ?_)))
      exact k
    · skip
      refine ⟨_, (pss_cons (ps_if (pt_not (pt_val (pe_callB (Rd.isi (K := K) rfl) (by rfl) T.n_isinstance (by decide +kernel) (pa_cons (pv 0) (pa_cons (pe_bltn (v := .ty "list") (u := .type "list") (by rfl) T.n_list (by decide +kernel) rfl) pa_nil))))) (pss_one ps_never) pss_nil)
      (pss_cons (ps_set (i := 3) sc_is_ascending.nd rfl (Or.inl rfl) (pv 1))
      (pss_cons (ps_for PassesOwn.never rfl (pi_list (pv 0)) (pg_name (i := 4) sc_is_ascending.nd rfl (Or.inl rfl)) (pss_cons (ps_if (pt_not (pt_val (pe_call (ok_is_whole_from T) (hr.mono (by decide)) (by rfl) T.m_is_whole_from T.F_is_whole_from.kp T.b_is_whole_from .nil pass0 (pa_cons (pv 4) (pa_cons (pv 3) (pa_cons (pv 2) pa_nil)))))) (pss_one (ps_ret pe_bl)) pss_nil) (pss_one (ps_set (i := 3) sc_is_ascending.nd rfl (Or.inl rfl) (pe_op op_add (pv 4) pe_int)))))
      (pss_one ps_never)))), ?_⟩
      try dsimp only [L2.cxOf, L2.Cx.nox, L2.Cx.wish]
      try rw [st_is_ascending]
      with_reducible refine Rd.seq (Rd.ifS (Rd.not (Rd.tb (Rd.cB (Rd.cons (Rd.var (by walk_at "vr") (Rd.cons (Rd.c (Rd.nil ?_)))))))))
      refine ⟨_, _, _, _, _, rfl, (by walk_at "clsv"), (by walk_at "tyx"), (by walk_at "kit"), ?_⟩
      with_reducible refine Rd.bl (Rd.iteF (by walk_at "bF") (Rd.next (Rd.seq (Rd.asg (Rd.var (by walk_at "vr") (Rd.name ?_))))))
      try dsimp only [Int.reduceToNat, List.set]
      with_reducible refine Rd.seq (Rd.fr (Rd.il (Rd.var (by walk_at "vr") (⟨_, rfl, ?_⟩))))
      refine Rd.unroll2 (by walk_at "hpl") ?_
      refine Rd.unrCons ?_
      with_reducible refine Rd.name ?_
      dsimp only [List.set]
      with_reducible refine Rd.seq (Rd.ifS (Rd.not (Rd.tb (Rd.call (Rd.cons (Rd.var (by walk_at "vr") (Rd.cons (Rd.var (by walk_at "vr") (Rd.cons (Rd.var (by walk_at "vr") (Rd.nil ?_)))))))))))
      refine ⟨_, _, _, rfl, .inl ⟨_, rfl, (by walk_at "sc"), (by walk_at "sc"), ?_⟩⟩
      with_reducible refine Rd.bl (Rd.iteF (by walk_at "bF") (Rd.next (Rd.asg (Rd.op (Rd.var (by walk_at "vr") (Rd.c (Rd.i0 (Rd.name ?_))))))))
      try dsimp only [Int.reduceToNat, List.set]
      refine ⟨by walk_at "hpl", ?_⟩
      refine Rd.unrCons ?_
      with_reducible refine Rd.name ?_
      dsimp only [List.set]
      with_reducible refine Rd.seq (Rd.ifS (Rd.not (Rd.tb (Rd.call (Rd.cons (Rd.var (by walk_at "vr") (Rd.cons (Rd.var (by walk_at "vr") (Rd.cons (Rd.var (by walk_at "vr") (Rd.nil ?_)))))))))))
      refine ⟨_, _, _, rfl, .inr (.inr (.inr ⟨(by with_reducible assumption), ?_⟩))⟩
      with_reducible refine Rd.bl (Rd.iteT (by walk_at "bT") (Rd.ret (Rd.c ?_)))
      exact k
/-! check_parts -/
theorem sc_check_parts : FnScope ["early", "start", "period", "rests"] ["early", "start", "period", "rests"] (defScope s_check_parts) := ⟨rfl, rfl, rfl, by decide +kernel, rfl, by decide +kernel, by decide +kernel⟩
theorem st_check_parts {v0 v1 v2 v3 : V} : L2.start ["early", "start", "period", "rests"] [v0, v1, v2, v3] = [some v0, some v1, some v2, some v3] := rfl
abbrev sp_check_parts (K : PySem.W.Frag) (A : Adr) : Sp := fun vs H Q E => ∃ (e s p r : V), vs = [e, s, p, r] ∧ ((∃ a b : Int, s = .int a ∧ p = .int b ∧ 1 ≤ a ∧ a ≤ 20000 ∧ 1 ≤ b ∧ b ≤ 5000 ∧ IsAsc H e 1 (a - 1) ∧ IsAsc H r 0 (b - 1) ∧ Q .non H) ∨ (BadR K H e s p r ∧ E (.ref A.c_NoSet) none H))
theorem ok_check_parts (T : Txt w K mg A) : FnOk P w K mg base (L2.CX P w) 4 A.f_check_parts A.d_check_parts ["early", "start", "period", "rests"] (sp_check_parts K A) := by
  refine T.F_check_parts.okX sc_check_parts (fun vs H Q E h => ?_) (fun cdv Ar outer s H vs Q E hr h => ?_)
  · obtain ⟨e, s, p, r, rfl, hy⟩ := h
    rfl
  · obtain ⟨e, s, p, r, rfl, hy⟩ := h
    have hu := hu_of hr
    have t_i_SizeSet := T.i_SizeSet
    have t_kt_NoneType_SizeSet := T.kt_NoneType_SizeSet
    have t_kt_int_SizeSet := T.kt_int_SizeSet
    have t_kt_bool_SizeSet := T.kt_bool_SizeSet
    have t_kt_str_SizeSet := T.kt_str_SizeSet
    have t_kt_tuple_SizeSet := T.kt_tuple_SizeSet
    have t_kt_list_SizeSet := T.kt_list_SizeSet
    have t_kt_dict_SizeSet := T.kt_dict_SizeSet
    have t_kt_SizeSet_SizeSet := T.kt_SizeSet_SizeSet
    have t_nf_SizeSet_SizeSet := T.nf_SizeSet_SizeSet
    have t_nf_NoneType_SizeSet := T.nf_NoneType_SizeSet
    have t_nf_int_SizeSet := T.nf_int_SizeSet
    have t_nf_bool_SizeSet := T.nf_bool_SizeSet
    have t_nf_str_SizeSet := T.nf_str_SizeSet
    have t_nf_tuple_SizeSet := T.nf_tuple_SizeSet
    have t_nf_list_SizeSet := T.nf_list_SizeSet
    have t_nf_dict_SizeSet := T.nf_dict_SizeSet
    have t_kt_NoSet_in_NoForm := T.kt_NoSet_in_NoForm
    have t_kt_NoSet_in_NoCounter := T.kt_NoSet_in_NoCounter
    have t_kt_NoSet_in_NoScheme := T.kt_NoSet_in_NoScheme
    have t_kt_NoSet_in_NoSize := T.kt_NoSet_in_NoSize
    have t_kt_NoSet_in_NoRing := T.kt_NoSet_in_NoRing
    have t_kt_NoSet_in_Outside := T.kt_NoSet_in_Outside
    have t_kt_NoSet_in_NoRun := T.kt_NoSet_in_NoRun
    have t_kt_NoSet_in_NoSet := T.kt_NoSet_in_NoSet
    have t_kt_NoSet_in_TooLong := T.kt_NoSet_in_TooLong
    have t_kt_NoSet_in_VE := T.kt_NoSet_in_VE
    have t_xm_NoSet := T.xm_NoSet
    have t_kt_TooLong_in_NoForm := T.kt_TooLong_in_NoForm
    have t_kt_TooLong_in_NoCounter := T.kt_TooLong_in_NoCounter
    have t_kt_TooLong_in_NoScheme := T.kt_TooLong_in_NoScheme
    have t_kt_TooLong_in_NoSize := T.kt_TooLong_in_NoSize
    have t_kt_TooLong_in_NoRing := T.kt_TooLong_in_NoRing
    have t_kt_TooLong_in_Outside := T.kt_TooLong_in_Outside
    have t_kt_TooLong_in_NoRun := T.kt_TooLong_in_NoRun
    have t_kt_TooLong_in_NoSet := T.kt_TooLong_in_NoSet
    have t_kt_TooLong_in_TooLong := T.kt_TooLong_in_TooLong
    have t_kt_TooLong_in_VE := T.kt_TooLong_in_VE
    have t_xm_TooLong := T.xm_TooLong
    have t_k_SizeSet := T.k_SizeSet
    rcases hy with ⟨a, b, rfl, rfl, a1, a2, b1, b2, hE, hR, k⟩ | ⟨(⟨i, rfl, hb⟩ | ⟨i, rfl, hb, hb'⟩ | hb) | ⟨a, rfl, a1, a2, (⟨i, rfl, hb⟩ | ⟨i, rfl, hb, hb'⟩ | hb) | ⟨b, rfl, b1, b2, hE | ⟨hE, hR⟩⟩⟩, k⟩
    · skip
      refine ⟨_, (pss_cons (ps_if (pt_not (pt_val (pe_call (ok_is_whole_from T) (hr.mono (by decide)) (by rfl) T.m_is_whole_from T.F_is_whole_from.kp T.b_is_whole_from .nil pass0 (pa_cons (pv 1) (pa_cons pe_int (pa_cons (pe_glob (v := .int (20000)) rfl T.m_GREATEST_START ⟨_, rfl⟩) pa_nil)))))) (pss_one ps_never) pss_nil)
      (pss_cons (ps_if (pt_not (pt_val (pe_call (ok_is_whole_from T) (hr.mono (by decide)) (by rfl) T.m_is_whole_from T.F_is_whole_from.kp T.b_is_whole_from .nil pass0 (pa_cons (pv 2) (pa_cons pe_int (pa_cons (pe_glob (v := .int (5000)) rfl T.m_GREATEST_PERIOD ⟨_, rfl⟩) pa_nil)))))) (pss_one ps_never) pss_nil)
      (pss_one (ps_if (PW.pt (pw_or (pt_not (pt_val (pe_call (ok_is_ascending T) (hr.mono (by decide)) (by rfl) T.m_is_ascending T.F_is_ascending.kp T.b_is_ascending .nil pass0 (pa_cons (pv 0) (pa_cons pe_int (pa_cons (pe_op op_sub (pv 1) pe_int) pa_nil)))))) (pw_or1 (pt_not (pt_val (pe_call (ok_is_ascending T) (hr.mono (by decide)) (by rfl) T.m_is_ascending T.F_is_ascending.kp T.b_is_ascending .nil pass0 (pa_cons (pv 3) (pa_cons pe_int (pa_cons (pe_op op_sub (pv 2) pe_int) pa_nil))))))))) (pss_one ps_never) pss_nil)))), ?_⟩
      try dsimp only [L2.cxOf, L2.Cx.nox, L2.Cx.wish]
      try rw [st_check_parts]
      with_reducible refine Rd.seq (Rd.ifS (Rd.not (Rd.tb (Rd.call (Rd.cons (Rd.var (by walk_at "vr") (Rd.cons (Rd.c (Rd.cons (Rd.c (Rd.nil ?_)))))))))))
      refine ⟨_, _, _, rfl, .inl ⟨_, rfl, (by walk_at "sc"), (by walk_at "sc"), ?_⟩⟩
      with_reducible refine Rd.bl (Rd.iteF (by walk_at "bF") (Rd.next (Rd.seq (Rd.ifS (Rd.not (Rd.tb (Rd.call (Rd.cons (Rd.var (by walk_at "vr") (Rd.cons (Rd.c ?_)))))))))))
      with_reducible refine Rd.cons (Rd.c (Rd.nil ?_))
      refine ⟨_, _, _, rfl, .inl ⟨_, rfl, (by walk_at "sc"), (by walk_at "sc"), ?_⟩⟩
      with_reducible refine Rd.bl (Rd.iteF (by walk_at "bF") (Rd.next (Rd.ifS (Rd.or (Rd.not (Rd.tb (Rd.call (Rd.cons (Rd.var (by walk_at "vr") (Rd.cons (Rd.c ?_)))))))))))
      with_reducible refine Rd.cons (Rd.op (Rd.var (by walk_at "vr") (Rd.c (Rd.i0 (Rd.nil ?_)))))
      refine ⟨_, _, _, rfl, .inl ⟨hE, ?_⟩⟩
      with_reducible refine Rd.bl (Rd.iteF (by walk_at "bF") (Rd.not (Rd.tb (Rd.call (Rd.cons (Rd.var (by walk_at "vr") (Rd.cons (Rd.c (Rd.cons (Rd.op (Rd.var (by walk_at "vr") ?_)))))))))))
      with_reducible refine Rd.c (Rd.i0 (Rd.nil ?_))
      refine ⟨_, _, _, rfl, .inl ⟨hR, ?_⟩⟩
      with_reducible refine Rd.bl (Rd.iteF (by walk_at "bF") (Rd.next ?_))
      exact k
    · skip
      refine ⟨_, (pss_cons (ps_if (pt_not (pt_val (pe_call (ok_is_whole_from T) (hr.mono (by decide)) (by rfl) T.m_is_whole_from T.F_is_whole_from.kp T.b_is_whole_from .nil pass0 (pa_cons (pv 1) (pa_cons pe_int (pa_cons (pe_glob (v := .int (20000)) rfl T.m_GREATEST_START ⟨_, rfl⟩) pa_nil)))))) (pss_one (ps_raise rfl (takes_of rfl rfl rfl rfl) (pmk_own PySem.F.excBase_ValueError T.x_NoSet T.m_NoSet T.kp_NoSet (raises_own T.sb_NoSet T.tc_NoSet) rfl))) pss_nil)
      (pss_cons ps_never (pss_one ps_never))), ?_⟩
      try dsimp only [L2.cxOf, L2.Cx.nox, L2.Cx.wish]
      try rw [st_check_parts]
      with_reducible refine Rd.seq (Rd.ifS (Rd.not (Rd.tb (Rd.call (Rd.cons (Rd.var (by walk_at "vr") (Rd.cons (Rd.c (Rd.cons (Rd.c (Rd.nil ?_)))))))))))
      refine ⟨_, _, _, rfl, .inr (.inl ⟨_, rfl, (by walk_at "sc"), ?_⟩)⟩
      with_reducible refine Rd.bl (Rd.iteT (by walk_at "bT") ?_)
      exact k
    · skip
      refine ⟨_, (pss_cons (ps_if (pt_not (pt_val (pe_call (ok_is_whole_from T) (hr.mono (by decide)) (by rfl) T.m_is_whole_from T.F_is_whole_from.kp T.b_is_whole_from .nil pass0 (pa_cons (pv 1) (pa_cons pe_int (pa_cons (pe_glob (v := .int (20000)) rfl T.m_GREATEST_START ⟨_, rfl⟩) pa_nil)))))) (pss_one (ps_raise rfl (takes_of rfl rfl rfl rfl) (pmk_own PySem.F.excBase_ValueError T.x_NoSet T.m_NoSet T.kp_NoSet (raises_own T.sb_NoSet T.tc_NoSet) rfl))) pss_nil)
      (pss_cons ps_never (pss_one ps_never))), ?_⟩
      try dsimp only [L2.cxOf, L2.Cx.nox, L2.Cx.wish]
      try rw [st_check_parts]
      with_reducible refine Rd.seq (Rd.ifS (Rd.not (Rd.tb (Rd.call (Rd.cons (Rd.var (by walk_at "vr") (Rd.cons (Rd.c (Rd.cons (Rd.c (Rd.nil ?_)))))))))))
      refine ⟨_, _, _, rfl, .inr (.inr (.inl ⟨_, rfl, (by walk_at "sc"), (by walk_at "sc"), ?_⟩))⟩
      with_reducible refine Rd.bl (Rd.iteT (by walk_at "bT") ?_)
      exact k
    · skip
      refine ⟨_, (pss_cons (ps_if (pt_not (pt_val (pe_call (ok_is_whole_from T) (hr.mono (by decide)) (by rfl) T.m_is_whole_from T.F_is_whole_from.kp T.b_is_whole_from .nil pass0 (pa_cons (pv 1) (pa_cons pe_int (pa_cons (pe_glob (v := .int (20000)) rfl T.m_GREATEST_START ⟨_, rfl⟩) pa_nil)))))) (pss_one (ps_raise rfl (takes_of rfl rfl rfl rfl) (pmk_own PySem.F.excBase_ValueError T.x_NoSet T.m_NoSet T.kp_NoSet (raises_own T.sb_NoSet T.tc_NoSet) rfl))) pss_nil)
      (pss_cons ps_never (pss_one ps_never))), ?_⟩
      try dsimp only [L2.cxOf, L2.Cx.nox, L2.Cx.wish]
      try rw [st_check_parts]
      with_reducible refine Rd.seq (Rd.ifS (Rd.not (Rd.tb (Rd.call (Rd.cons (Rd.var (by walk_at "vr") (Rd.cons (Rd.c (Rd.cons (Rd.c (Rd.nil ?_)))))))))))
      refine ⟨_, _, _, rfl, .inr (.inr (.inr ⟨(by with_reducible assumption), ?_⟩))⟩
      with_reducible refine Rd.bl (Rd.iteT (by walk_at "bT") ?_)
      exact k
    · skip
      refine ⟨_, (pss_cons (ps_if (pt_not (pt_val (pe_call (ok_is_whole_from T) (hr.mono (by decide)) (by rfl) T.m_is_whole_from T.F_is_whole_from.kp T.b_is_whole_from .nil pass0 (pa_cons (pv 1) (pa_cons pe_int (pa_cons (pe_glob (v := .int (20000)) rfl T.m_GREATEST_START ⟨_, rfl⟩) pa_nil)))))) (pss_one ps_never) pss_nil)
      (pss_cons (ps_if (pt_not (pt_val (pe_call (ok_is_whole_from T) (hr.mono (by decide)) (by rfl) T.m_is_whole_from T.F_is_whole_from.kp T.b_is_whole_from .nil pass0 (pa_cons (pv 2) (pa_cons pe_int (pa_cons (pe_glob (v := .int (5000)) rfl T.m_GREATEST_PERIOD ⟨_, rfl⟩) pa_nil)))))) (pss_one (ps_raise rfl (takes_of rfl rfl rfl rfl) (pmk_own PySem.F.excBase_ValueError T.x_NoSet T.m_NoSet T.kp_NoSet (raises_own T.sb_NoSet T.tc_NoSet) rfl))) pss_nil)
      (pss_one ps_never))), ?_⟩
      try dsimp only [L2.cxOf, L2.Cx.nox, L2.Cx.wish]
      try rw [st_check_parts]
      with_reducible refine Rd.seq (Rd.ifS (Rd.not (Rd.tb (Rd.call (Rd.cons (Rd.var (by walk_at "vr") (Rd.cons (Rd.c (Rd.cons (Rd.c (Rd.nil ?_)))))))))))
      refine ⟨_, _, _, rfl, .inl ⟨_, rfl, (by walk_at "sc"), (by walk_at "sc"), ?_⟩⟩
      with_reducible refine Rd.bl (Rd.iteF (by walk_at "bF") (Rd.next (Rd.seq (Rd.ifS (Rd.not (Rd.tb (Rd.call (Rd.cons (Rd.var (by walk_at "vr") (Rd.cons (Rd.c ?_)))))))))))
      with_reducible refine Rd.cons (Rd.c (Rd.nil ?_))
      refine ⟨_, _, _, rfl, .inr (.inl ⟨_, rfl, (by walk_at "sc"), ?_⟩)⟩
      with_reducible refine Rd.bl (Rd.iteT (by walk_at "bT") ?_)
      exact k
    · skip
      refine ⟨_, (pss_cons (ps_if (pt_not (pt_val (pe_call (ok_is_whole_from T) (hr.mono (by decide)) (by rfl) T.m_is_whole_from T.F_is_whole_from.kp T.b_is_whole_from .nil pass0 (pa_cons (pv 1) (pa_cons pe_int (pa_cons (pe_glob (v := .int (20000)) rfl T.m_GREATEST_START ⟨_, rfl⟩) pa_nil)))))) (pss_one ps_never) pss_nil)
      (pss_cons (ps_if (pt_not (pt_val (pe_call (ok_is_whole_from T) (hr.mono (by decide)) (by rfl) T.m_is_whole_from T.F_is_whole_from.kp T.b_is_whole_from .nil pass0 (pa_cons (pv 2) (pa_cons pe_int (pa_cons (pe_glob (v := .int (5000)) rfl T.m_GREATEST_PERIOD ⟨_, rfl⟩) pa_nil)))))) (pss_one (ps_raise rfl (takes_of rfl rfl rfl rfl) (pmk_own PySem.F.excBase_ValueError T.x_NoSet T.m_NoSet T.kp_NoSet (raises_own T.sb_NoSet T.tc_NoSet) rfl))) pss_nil)
      (pss_one ps_never))), ?_⟩
      try dsimp only [L2.cxOf, L2.Cx.nox, L2.Cx.wish]
      try rw [st_check_parts]
      with_reducible refine Rd.seq (Rd.ifS (Rd.not (Rd.tb (Rd.call (Rd.cons (Rd.var (by walk_at "vr") (Rd.cons (Rd.c (Rd.cons (Rd.c (Rd.nil ?_)))))))))))
      refine ⟨_, _, _, rfl, .inl ⟨_, rfl, (by walk_at "sc"), (by walk_at "sc"), ?_⟩⟩
      with_reducible refine Rd.bl (Rd.iteF (by walk_at "bF") (Rd.next (Rd.seq (Rd.ifS (Rd.not (Rd.tb (Rd.call (Rd.cons (Rd.var (by walk_at "vr") (Rd.cons (Rd.c ?_)))))))))))
      with_reducible refine Rd.cons (Rd.c (Rd.nil ?_))
      refine ⟨_, _, _, rfl, .inr (.inr (.inl ⟨_, rfl, (by walk_at "sc"), (by walk_at "sc"), ?_⟩))⟩
      with_reducible refine Rd.bl (Rd.iteT (by walk_at "bT") ?_)
      exact k
    · skip
      refine ⟨_, (pss_cons (ps_if (pt_not (pt_val (pe_call (ok_is_whole_from T) (hr.mono (by decide)) (by rfl) T.m_is_whole_from T.F_is_whole_from.kp T.b_is_whole_from .nil pass0 (pa_cons (pv 1) (pa_cons pe_int (pa_cons (pe_glob (v := .int (20000)) rfl T.m_GREATEST_START ⟨_, rfl⟩) pa_nil)))))) (pss_one ps_never) pss_nil)
      (pss_cons (ps_if (pt_not (pt_val (pe_call (ok_is_whole_from T) (hr.mono (by decide)) (by rfl) T.m_is_whole_from T.F_is_whole_from.kp T.b_is_whole_from .nil pass0 (pa_cons (pv 2) (pa_cons pe_int (pa_cons (pe_glob (v := .int (5000)) rfl T.m_GREATEST_PERIOD ⟨_, rfl⟩) pa_nil)))))) (pss_one (ps_raise rfl (takes_of rfl rfl rfl rfl) (pmk_own PySem.F.excBase_ValueError T.x_NoSet T.m_NoSet T.kp_NoSet (raises_own T.sb_NoSet T.tc_NoSet) rfl))) pss_nil)
      (pss_one ps_never))), ?_⟩
      try dsimp only [L2.cxOf, L2.Cx.nox, L2.Cx.wish]
      try rw [st_check_parts]
      with_reducible refine Rd.seq (Rd.ifS (Rd.not (Rd.tb (Rd.call (Rd.cons (Rd.var (by walk_at "vr") (Rd.cons (Rd.c (Rd.cons (Rd.c (Rd.nil ?_)))))))))))
      refine ⟨_, _, _, rfl, .inl ⟨_, rfl, (by walk_at "sc"), (by walk_at "sc"), ?_⟩⟩
      with_reducible refine Rd.bl (Rd.iteF (by walk_at "bF") (Rd.next (Rd.seq (Rd.ifS (Rd.not (Rd.tb (Rd.call (Rd.cons (Rd.var (by walk_at "vr") (Rd.cons (Rd.c ?_)))))))))))
      with_reducible refine Rd.cons (Rd.c (Rd.nil ?_))
      refine ⟨_, _, _, rfl, .inr (.inr (.inr ⟨(by with_reducible assumption), ?_⟩))⟩
      with_reducible refine Rd.bl (Rd.iteT (by walk_at "bT") ?_)
      exact k
    · skip
      refine ⟨_, (pss_cons (ps_if (pt_not (pt_val (pe_call (ok_is_whole_from T) (hr.mono (by decide)) (by rfl) T.m_is_whole_from T.F_is_whole_from.kp T.b_is_whole_from .nil pass0 (pa_cons (pv 1) (pa_cons pe_int (pa_cons (pe_glob (v := .int (20000)) rfl T.m_GREATEST_START ⟨_, rfl⟩) pa_nil)))))) (pss_one ps_never) pss_nil)
      (pss_cons (ps_if (pt_not (pt_val (pe_call (ok_is_whole_from T) (hr.mono (by decide)) (by rfl) T.m_is_whole_from T.F_is_whole_from.kp T.b_is_whole_from .nil pass0 (pa_cons (pv 2) (pa_cons pe_int (pa_cons (pe_glob (v := .int (5000)) rfl T.m_GREATEST_PERIOD ⟨_, rfl⟩) pa_nil)))))) (pss_one ps_never) pss_nil)
      (pss_one (ps_if (PW.pt (pw_or (pt_not (pt_val (pe_call (ok_is_ascending T) (hr.mono (by decide)) (by rfl) T.m_is_ascending T.F_is_ascending.kp T.b_is_ascending .nil pass0 (pa_cons (pv 0) (pa_cons pe_int (pa_cons (pe_op op_sub (pv 1) pe_int) pa_nil)))))) (pw_or1 Rd.ptN))) (pss_one (ps_raise rfl (takes_of rfl rfl rfl rfl) (pmk_own PySem.F.excBase_ValueError T.x_NoSet T.m_NoSet T.kp_NoSet (raises_own T.sb_NoSet T.tc_NoSet) rfl))) pss_nil)))), ?_⟩
      try dsimp only [L2.cxOf, L2.Cx.nox, L2.Cx.wish]
      try rw [st_check_parts]
      with_reducible refine Rd.seq (Rd.ifS (Rd.not (Rd.tb (Rd.call (Rd.cons (Rd.var (by walk_at "vr") (Rd.cons (Rd.c (Rd.cons (Rd.c (Rd.nil ?_)))))))))))
      refine ⟨_, _, _, rfl, .inl ⟨_, rfl, (by walk_at "sc"), (by walk_at "sc"), ?_⟩⟩
      with_reducible refine Rd.bl (Rd.iteF (by walk_at "bF") (Rd.next (Rd.seq (Rd.ifS (Rd.not (Rd.tb (Rd.call (Rd.cons (Rd.var (by walk_at "vr") (Rd.cons (Rd.c ?_)))))))))))
      with_reducible refine Rd.cons (Rd.c (Rd.nil ?_))
      refine ⟨_, _, _, rfl, .inl ⟨_, rfl, (by walk_at "sc"), (by walk_at "sc"), ?_⟩⟩
      with_reducible refine Rd.bl (Rd.iteF (by walk_at "bF") (Rd.next (Rd.ifS (Rd.or (Rd.not (Rd.tb (Rd.call (Rd.cons (Rd.var (by walk_at "vr") (Rd.cons (Rd.c ?_)))))))))))
      with_reducible refine Rd.cons (Rd.op (Rd.var (by walk_at "vr") (Rd.c (Rd.i0 (Rd.nil ?_)))))
      refine ⟨_, _, _, rfl, .inr ⟨hE, ?_⟩⟩
      with_reducible refine Rd.bl (Rd.iteT (by walk_at "bT") (Rd.iteT rfl ?_))
      exact k
    · skip
      refine ⟨_, (pss_cons (ps_if (pt_not (pt_val (pe_call (ok_is_whole_from T) (hr.mono (by decide)) (by rfl) T.m_is_whole_from T.F_is_whole_from.kp T.b_is_whole_from .nil pass0 (pa_cons (pv 1) (pa_cons pe_int (pa_cons (pe_glob (v := .int (20000)) rfl T.m_GREATEST_START ⟨_, rfl⟩) pa_nil)))))) (pss_one ps_never) pss_nil)
      (pss_cons (ps_if (pt_not (pt_val (pe_call (ok_is_whole_from T) (hr.mono (by decide)) (by rfl) T.m_is_whole_from T.F_is_whole_from.kp T.b_is_whole_from .nil pass0 (pa_cons (pv 2) (pa_cons pe_int (pa_cons (pe_glob (v := .int (5000)) rfl T.m_GREATEST_PERIOD ⟨_, rfl⟩) pa_nil)))))) (pss_one ps_never) pss_nil)
      (pss_one (ps_if (PW.pt (pw_or (pt_not (pt_val (pe_call (ok_is_ascending T) (hr.mono (by decide)) (by rfl) T.m_is_ascending T.F_is_ascending.kp T.b_is_ascending .nil pass0 (pa_cons (pv 0) (pa_cons pe_int (pa_cons (pe_op op_sub (pv 1) pe_int) pa_nil)))))) (pw_or1 (pt_not (pt_val (pe_call (ok_is_ascending T) (hr.mono (by decide)) (by rfl) T.m_is_ascending T.F_is_ascending.kp T.b_is_ascending .nil pass0 (pa_cons (pv 3) (pa_cons pe_int (pa_cons (pe_op op_sub (pv 2) pe_int) pa_nil))))))))) (pss_one (ps_raise rfl (takes_of rfl rfl rfl rfl) (pmk_own PySem.F.excBase_ValueError T.x_NoSet T.m_NoSet T.kp_NoSet (raises_own T.sb_NoSet T.tc_NoSet) rfl))) pss_nil)))), ?_⟩
      try dsimp only [L2.cxOf, L2.Cx.nox, L2.Cx.wish]
      try rw [st_check_parts]
      with_reducible refine Rd.seq (Rd.ifS (Rd.not (Rd.tb (Rd.call (Rd.cons (Rd.var (by walk_at "vr") (Rd.cons (Rd.c (Rd.cons (Rd.c (Rd.nil ?_)))))))))))
      refine ⟨_, _, _, rfl, .inl ⟨_, rfl, (by walk_at "sc"), (by walk_at "sc"), ?_⟩⟩
      with_reducible refine Rd.bl (Rd.iteF (by walk_at "bF") (Rd.next (Rd.seq (Rd.ifS (Rd.not (Rd.tb (Rd.call (Rd.cons (Rd.var (by walk_at "vr") (Rd.cons (Rd.c ?_)))))))))))
      with_reducible refine Rd.cons (Rd.c (Rd.nil ?_))
      refine ⟨_, _, _, rfl, .inl ⟨_, rfl, (by walk_at "sc"), (by walk_at "sc"), ?_⟩⟩
      with_reducible refine Rd.bl (Rd.iteF (by walk_at "bF") (Rd.next (Rd.ifS (Rd.or (Rd.not (Rd.tb (Rd.call (Rd.cons (Rd.var (by walk_at "vr") (Rd.cons (Rd.c ?_)))))))))))
      with_reducible refine Rd.cons (Rd.op (Rd.var (by walk_at "vr") (Rd.c (Rd.i0 (Rd.nil ?_)))))
      refine ⟨_, _, _, rfl, .inl ⟨hE, ?_⟩⟩
      with_reducible refine Rd.bl (Rd.iteF (by walk_at "bF") (Rd.not (Rd.tb (Rd.call (Rd.cons (Rd.var (by walk_at "vr") (Rd.cons (Rd.c (Rd.cons (Rd.op (Rd.var (by walk_at "vr") ?_)))))))))))
      with_reducible refine Rd.c (Rd.i0 (Rd.nil ?_))
      refine ⟨_, _, _, rfl, .inr ⟨hR, ?_⟩⟩
      with_reducible refine Rd.bl (Rd.iteT (by walk_at "bT") ?_)
      exact k
/-! least_start -/
theorem sc_least_start : FnScope ["early_marks", "rest_marks", "start"] ["early_marks", "rest_marks"] (defScope s_least_start) := ⟨rfl, rfl, rfl, by decide +kernel, rfl, by decide +kernel, by decide +kernel⟩
theorem st_least_start {v0 v1 : V} : L2.start ["early_marks", "rest_marks", "start"] [v0, v1] = [some v0, some v1, none] := rfl
abbrev sp_least_start (K : PySem.W.Frag) (A : Adr) : Sp := fun vs H Q _ => ∃ (a b : Addr) (eb rb : List Bool), vs = [.ref a, .ref b] ∧ SqL K H a (eb.map V.bl) ∧ SqL K H b (rb.map V.bl) ∧ 1 ≤ eb.length ∧ eb.length ≤ 20000 ∧ 1 ≤ rb.length ∧ rb.length ≤ 20000 ∧ ∀ st : Int, 1 ≤ st → st ≤ (eb.length : Int) → (∀ n : Nat, st ≤ (n : Int) → n < eb.length → eb[n]? = rb[n % rb.length]?) → (st = 1 ∨ eb[(st - 1).toNat]? ≠ rb[(st - 1).toNat % rb.length]?) → Q (.int st) H
theorem ok_least_start (T : Txt w K mg A) : FnOk P w K mg base CX0 1 A.f_least_start A.d_least_start ["early_marks", "rest_marks"] (sp_least_start K A) := by
  refine T.F_least_start.ok sc_least_start (fun vs H Q E h => ?_) (fun cdv Ar outer s H vs Q E hr h => ?_)
  · obtain ⟨a, b, eb, rb, rfl, ha, hb, e1, e2, r1, r2, k⟩ := h
    rfl
  · obtain ⟨a, b, eb, rb, rfl, ha, hb, e1, e2, r1, r2, k⟩ := h
    have hu := hu_of hr
    have t_i_SizeSet := T.i_SizeSet
    have t_kt_NoneType_SizeSet := T.kt_NoneType_SizeSet
    have t_kt_int_SizeSet := T.kt_int_SizeSet
    have t_kt_bool_SizeSet := T.kt_bool_SizeSet
    have t_kt_str_SizeSet := T.kt_str_SizeSet
    have t_kt_tuple_SizeSet := T.kt_tuple_SizeSet
    have t_kt_list_SizeSet := T.kt_list_SizeSet
    have t_kt_dict_SizeSet := T.kt_dict_SizeSet
    have t_kt_SizeSet_SizeSet := T.kt_SizeSet_SizeSet
    have t_nf_SizeSet_SizeSet := T.nf_SizeSet_SizeSet
    have t_nf_NoneType_SizeSet := T.nf_NoneType_SizeSet
    have t_nf_int_SizeSet := T.nf_int_SizeSet
    have t_nf_bool_SizeSet := T.nf_bool_SizeSet
    have t_nf_str_SizeSet := T.nf_str_SizeSet
    have t_nf_tuple_SizeSet := T.nf_tuple_SizeSet
    have t_nf_list_SizeSet := T.nf_list_SizeSet
    have t_nf_dict_SizeSet := T.nf_dict_SizeSet
    have t_kt_NoSet_in_NoForm := T.kt_NoSet_in_NoForm
    have t_kt_NoSet_in_NoCounter := T.kt_NoSet_in_NoCounter
    have t_kt_NoSet_in_NoScheme := T.kt_NoSet_in_NoScheme
    have t_kt_NoSet_in_NoSize := T.kt_NoSet_in_NoSize
    have t_kt_NoSet_in_NoRing := T.kt_NoSet_in_NoRing
    have t_kt_NoSet_in_Outside := T.kt_NoSet_in_Outside
    have t_kt_NoSet_in_NoRun := T.kt_NoSet_in_NoRun
    have t_kt_NoSet_in_NoSet := T.kt_NoSet_in_NoSet
    have t_kt_NoSet_in_TooLong := T.kt_NoSet_in_TooLong
    have t_kt_NoSet_in_VE := T.kt_NoSet_in_VE
    have t_xm_NoSet := T.xm_NoSet
    have t_kt_TooLong_in_NoForm := T.kt_TooLong_in_NoForm
    have t_kt_TooLong_in_NoCounter := T.kt_TooLong_in_NoCounter
    have t_kt_TooLong_in_NoScheme := T.kt_TooLong_in_NoScheme
    have t_kt_TooLong_in_NoSize := T.kt_TooLong_in_NoSize
    have t_kt_TooLong_in_NoRing := T.kt_TooLong_in_NoRing
    have t_kt_TooLong_in_Outside := T.kt_TooLong_in_Outside
    have t_kt_TooLong_in_NoRun := T.kt_TooLong_in_NoRun
    have t_kt_TooLong_in_NoSet := T.kt_TooLong_in_NoSet
    have t_kt_TooLong_in_TooLong := T.kt_TooLong_in_TooLong
    have t_kt_TooLong_in_VE := T.kt_TooLong_in_VE
    have t_xm_TooLong := T.xm_TooLong
    have t_k_SizeSet := T.k_SizeSet
    have el9 : (eb.map V.bl).length = eb.length := List.length_map _
    have rl9 : (rb.map V.bl).length = rb.length := List.length_map _
    refine ⟨_, (pss_cons (ps_set (i := 2) sc_least_start.nd rfl (Or.inl rfl) (pe_callB call_len_seq (by rfl) T.n_len PySem.boot_len (pa_cons (pv 0) pa_nil)))
      (pss_cons (ps_while PassesOwn.never (PW.pt (pw_and (pt_cmpR op_gt (pv 2) pe_int (nomark _)) (pw_and1 (pt_cmpR op_eq (pe_ix (Rd.ixLK rfl) (pv 0) (pe_op op_sub (pv 2) pe_int) (fun _ _ => rfl)) (pe_ix (Rd.ixLK rfl) (pv 1) (pe_op op_mod (pe_op op_sub (pv 2) pe_int) (pe_callB call_len_seq (by rfl) T.n_len PySem.boot_len (pa_cons (pv 1) pa_nil))) (fun _ _ => rfl)) (nomark _))))) (pss_one (ps_set (i := 2) sc_least_start.nd rfl (Or.inl rfl) (pe_op op_sub (pv 2) pe_int))))
      (pss_one (ps_ret (pv 2))))), ?_⟩
    try dsimp only [L2.cxOf, L2.Cx.nox, L2.Cx.wish]
    try rw [st_least_start]
    with_reducible refine Rd.seq (Rd.asg (Rd.cB (Rd.cons (Rd.var (by walk_at "vr") (Rd.nil (⟨_, _, rfl, (by walk_at "hpq"), (Rd.name ?_)⟩))))))
    try dsimp only [Int.reduceToNat, List.set]
    with_reducible refine Rd.seq ?_
    refine while_by (fun (σ : L2.St) (H' : Hp) => ∃ st : Int, σ = [some (.ref a), some (.ref b), some (.int st)] ∧ H' = H ∧ 1 ≤ st ∧ st ≤ (eb.length : Int) ∧ ∀ n : Nat, st ≤ (n : Int) → n < eb.length → eb[n]? = rb[n % rb.length]?) (fun σ _ => match σ[2]? with | some (some (V.int b)) => b.toNat | _ => 0) ⟨_, rfl, rfl, (by omega), (by omega), fun n a b => by omega⟩ (fun σ H0 ⟨st, es, eh, s1, s2, hs⟩ => ?_) ?_
    · subst es eh
      with_reducible refine Rd.and (Rd.test (Rd.op (Rd.var (by walk_at "vr") (Rd.c (Rd.i0 (Rd.bl ?_))))))
      refine Rd.ite (fun h0 => ?_) (fun h0 => ?_)
      · try simp only [decide_eq_true_eq, Bool.not_eq_true', decide_eq_false_iff_not, Bool.not_eq_true, Bool.not_eq_eq_eq_not, Bool.not_true, Bool.not_false] at h0
        with_reducible refine Rd.test (Rd.op (Rd.op (Rd.var (by walk_at "vr") (Rd.op (Rd.var (by walk_at "vr") (Rd.c (Rd.i0 ?_)))))))
        obtain ⟨x1, hx1, ex1⟩ := bat (bs := eb) (i := st - 1) (by omega) (by omega)
        refine Rd.ixL (by walk_at "hpl") hx1 ?_
        with_reducible refine Rd.op (Rd.var (by walk_at "vr") (Rd.op (Rd.op (Rd.var (by walk_at "vr") (Rd.c (Rd.i0 (Rd.cB (Rd.cons (Rd.var (by walk_at "vr") (Rd.nil (⟨_, _, rfl, (by walk_at "hpq"), ?_⟩)))))))))))
        with_reducible refine Rd.iC (by walk_at "sc") ?_
        obtain ⟨x2, hx2, ex2⟩ := bmod (bs := rb) (i := st - 1) (by omega) r1
        refine Rd.ixL (by walk_at "hpl") hx2 ?_
        with_reducible refine Rd.eqS (by walk_at "vr") (Rd.bl ?_)
        refine Rd.ite (fun h1 => ?_) (fun h1 => ?_)
        · try simp only [decide_eq_true_eq, Bool.not_eq_true', decide_eq_false_iff_not, Bool.not_eq_true, Bool.not_eq_eq_eq_not, Bool.not_true, Bool.not_false] at h1
          skip
          with_reducible refine Rd.asg (Rd.op (Rd.var (by walk_at "vr") (Rd.c (Rd.i0 (Rd.name ?_)))))
          try dsimp only [Int.reduceToNat, List.set]
          exact ⟨⟨st - 1, rfl, rfl, by omega, by omega, fun n a b => by
              rcases (by omega : st ≤ (n : Int) ∨ n = (st - 1).toNat) with q | q
              · exact hs n q b
              · subst q; rw [ex1, ex2, V.bl.inj h1]⟩, (by show (st - 1).toNat < st.toNat; omega)⟩
        · try simp only [decide_eq_true_eq, Bool.not_eq_true', decide_eq_false_iff_not, Bool.not_eq_true, Bool.not_eq_eq_eq_not, Bool.not_true, Bool.not_false, Int.not_lt, Int.not_le, Decidable.not_not] at h1
          skip
          with_reducible refine Rd.ret (Rd.var (by walk_at "vr") ?_)
          first | exact k st s1 s2 hs (.inl (by omega)) | exact k st s1 s2 hs (.inr (by rw [ex1, ex2]; exact fun z => h1 (congrArg V.bl (Option.some.inj z))))
      · try simp only [decide_eq_true_eq, Bool.not_eq_true', decide_eq_false_iff_not, Bool.not_eq_true, Bool.not_eq_eq_eq_not, Bool.not_true, Bool.not_false, Int.not_lt, Int.not_le, Decidable.not_not] at h0
        with_reducible refine Rd.iteF rfl ?_
        skip
        with_reducible refine Rd.ret (Rd.var (by walk_at "vr") ?_)
        first | exact k st s1 s2 hs (.inl (by omega)) | exact k st s1 s2 hs (.inr (by rw [ex1, ex2]; exact fun z => h1 (congrArg V.bl (Option.some.inj z))))
    · exact Rd.mAnd (Rd.mTest (Rd.mOp Rd.mI0 Rd.mVar Rd.mC)) (Rd.mTest (Rd.mOp Rd.mEq (Rd.mOp Rd.mIxL Rd.mVar (Rd.mOp Rd.mI0 Rd.mVar Rd.mC)) (Rd.mOp Rd.mIxL Rd.mVar (Rd.mOp Rd.mI (Rd.mOp Rd.mI0 Rd.mVar Rd.mC) (Rd.mLen (Rd.mCons Rd.mVar Rd.mNil))))))
/-! marks_of -/
theorem sc_marks_of : FnScope ["numbers", "end", "marks", "number", "_"] ["numbers", "end"] (defScope s_marks_of) := ⟨rfl, rfl, rfl, by decide +kernel, rfl, by decide +kernel, by decide +kernel⟩
theorem st_marks_of {v0 v1 : V} : L2.start ["numbers", "end", "marks", "number", "_"] [v0, v1] = [some v0, some v1, none, none, none] := rfl
abbrev sp_marks_of (K : PySem.W.Frag) (A : Adr) : Sp := fun vs H Q _ => ∃ (l : Addr) (ns : List Int) (e : Int), vs = [.ref l, .int e] ∧ SqL K H l (ns.map V.int) ∧ (∀ x ∈ ns, 0 ≤ x ∧ x < e) ∧ 0 ≤ e ∧ e ≤ 20000 ∧ ∀ (p : Addr) (H' : Hp), Same H H' → H p = none → H' p = some (.lst ((mk ns e.toNat).map V.bl)) → Q (.ref p) H'
theorem ok_marks_of (T : Txt w K mg A) : FnOk P w K mg base CX0 1 A.f_marks_of A.d_marks_of ["numbers", "end"] (sp_marks_of K A) := by
  refine T.F_marks_of.ok sc_marks_of (fun vs H Q E h => ?_) (fun cdv Ar outer s H vs Q E hr h => ?_)
  · obtain ⟨l, ns, e, rfl, hl, hm, e0, e1, k⟩ := h
    rfl
  · obtain ⟨l, ns, e, rfl, hl, hm, e0, e1, k⟩ := h
    have hu := hu_of hr
    have t_i_SizeSet := T.i_SizeSet
    have t_kt_NoneType_SizeSet := T.kt_NoneType_SizeSet
    have t_kt_int_SizeSet := T.kt_int_SizeSet
    have t_kt_bool_SizeSet := T.kt_bool_SizeSet
    have t_kt_str_SizeSet := T.kt_str_SizeSet
    have t_kt_tuple_SizeSet := T.kt_tuple_SizeSet
    have t_kt_list_SizeSet := T.kt_list_SizeSet
    have t_kt_dict_SizeSet := T.kt_dict_SizeSet
    have t_kt_SizeSet_SizeSet := T.kt_SizeSet_SizeSet
    have t_nf_SizeSet_SizeSet := T.nf_SizeSet_SizeSet
    have t_nf_NoneType_SizeSet := T.nf_NoneType_SizeSet
    have t_nf_int_SizeSet := T.nf_int_SizeSet
    have t_nf_bool_SizeSet := T.nf_bool_SizeSet
    have t_nf_str_SizeSet := T.nf_str_SizeSet
    have t_nf_tuple_SizeSet := T.nf_tuple_SizeSet
    have t_nf_list_SizeSet := T.nf_list_SizeSet
    have t_nf_dict_SizeSet := T.nf_dict_SizeSet
    have t_kt_NoSet_in_NoForm := T.kt_NoSet_in_NoForm
    have t_kt_NoSet_in_NoCounter := T.kt_NoSet_in_NoCounter
    have t_kt_NoSet_in_NoScheme := T.kt_NoSet_in_NoScheme
    have t_kt_NoSet_in_NoSize := T.kt_NoSet_in_NoSize
    have t_kt_NoSet_in_NoRing := T.kt_NoSet_in_NoRing
    have t_kt_NoSet_in_Outside := T.kt_NoSet_in_Outside
    have t_kt_NoSet_in_NoRun := T.kt_NoSet_in_NoRun
    have t_kt_NoSet_in_NoSet := T.kt_NoSet_in_NoSet
    have t_kt_NoSet_in_TooLong := T.kt_NoSet_in_TooLong
    have t_kt_NoSet_in_VE := T.kt_NoSet_in_VE
    have t_xm_NoSet := T.xm_NoSet
    have t_kt_TooLong_in_NoForm := T.kt_TooLong_in_NoForm
    have t_kt_TooLong_in_NoCounter := T.kt_TooLong_in_NoCounter
    have t_kt_TooLong_in_NoScheme := T.kt_TooLong_in_NoScheme
    have t_kt_TooLong_in_NoSize := T.kt_TooLong_in_NoSize
    have t_kt_TooLong_in_NoRing := T.kt_TooLong_in_NoRing
    have t_kt_TooLong_in_Outside := T.kt_TooLong_in_Outside
    have t_kt_TooLong_in_NoRun := T.kt_TooLong_in_NoRun
    have t_kt_TooLong_in_NoSet := T.kt_TooLong_in_NoSet
    have t_kt_TooLong_in_TooLong := T.kt_TooLong_in_TooLong
    have t_kt_TooLong_in_VE := T.kt_TooLong_in_VE
    have t_xm_TooLong := T.xm_TooLong
    have t_k_SizeSet := T.k_SizeSet
    refine ⟨_, (pss_cons (ps_setLc (i := 2) (own := [("_", 4)]) (g := gName 4) rfl sc_marks_of.nd rfl rfl (sw_true rfl rfl rfl (by decide +kernel)) (pi_range1 (by rfl) T.n_range (pa_cons (pv 1) pa_nil)) (blkOk_by (own := [("_", 4)]) (N := ["numbers", "end", "marks", "number", "_"]) (sc := defScope s_marks_of) (by decide +kernel)) (fun _ _ _ _ _ => (pg_name (i := 4) sc_marks_of.nd rfl (Or.inl rfl))) (fun _ _ _ _ _ => pts_nil) (fun _ _ _ _ _ => pe_bl))
      (pss_cons (ps_for PassesOwn.never rfl (pi_list (pv 0)) (pg_name (i := 3) sc_marks_of.nd rfl (Or.inl rfl)) (pss_one (ps_asg pe_bl (pg_sub (pv 2) (pv 3) set_list))))
      (pss_one (ps_ret (pv 2))))), ?_⟩
    try dsimp only [L2.cxOf, L2.Cx.nox, L2.Cx.wish]
    try rw [st_marks_of]
    with_reducible refine Rd.seq (Rd.asg (Rd.lc (Rd.rng1 (Rd.cons (Rd.var (by walk_at "vr") (Rd.nil (⟨_, rfl, (by walk_at "sc"), (by walk_at "sc"), ?_⟩)))))))
    intro D0 nD0
    refine' lc_range (lo := 0) (fun i H' => Same H H' ∧ H' D0 = some (.lst ((List.replicate i false).map V.bl))) (⟨by walk_at "frm", L2.upd_same⟩) (fun i H' hi p => ?lct0_u9) (fun H' p => ?lcd0_u9)
    case lct0_u9 =>
      obtain ⟨S9, hD⟩ := p
      have al9 : ((List.replicate i false).map V.bl).length ≤ 29000 := by rw [List.length_map, List.length_replicate]; omega
      with_reducible refine Rd.name ?_
      refine ⟨rfl, ?_⟩
      refine Rd.yes (Rd.iteT rfl ?_)
      with_reducible refine Rd.c ?_
      refine ⟨_, (by walk_at "hp"), (by walk_at "sz"), ?_⟩
      refine ⟨by walk_at "frm", ?_⟩
      rw [List.replicate_succ', List.map_append]
      exact L2.upd_same
    obtain ⟨S9, hD9⟩ := p
    with_reducible refine Rd.name ?_
    try dsimp only [Int.reduceToNat, List.set]
    skip
    with_reducible refine Rd.seq (Rd.fr (Rd.il (Rd.var (by walk_at "vr") (⟨_, rfl, ?_⟩))))
    have hl9 := Same.seq S9 hl
    refine ⟨⟨_, (by walk_at "hpl")⟩, for_list (xs := ns.map V.int) (fun (i : Nat) (σ : L2.St) (H' : Hp) => ∃ v3 v4 : Option V, σ = [some (.ref l), some (.int e), some (.ref D0), v3, v4] ∧ Same H H' ∧ H' D0 = some (.lst ((mk (ns.take i) e.toNat).map V.bl))) ⟨_, _, rfl, S9, (by rw [List.take_zero, mk_nil]; exact hD9)⟩ (fun j σ H0 hj ⟨v3, v4, es, S8, hD8⟩ => Same.seq S8 hl) (fun j x σ H0 hx ⟨v3, v4, es, S8, hD8⟩ => ?_) (fun σ H0 ⟨v3, v4, es, S8, hD8⟩ => ?_)⟩
    · subst es
      rw [List.getElem?_map] at hx
      obtain ⟨n, hn, rfl⟩ := Option.map_eq_some_iff.mp hx
      obtain ⟨b0, b1⟩ := hm n (List.mem_of_getElem? hn)
      with_reducible refine Rd.name (Rd.asg (Rd.c (Rd.sub (Rd.var (by walk_at "vr") (Rd.var (by walk_at "vr") ?_)))))
      refine Rd.setL hD8 (ixN_of (by omega) (by rw [List.length_map, mk_len]; omega)) ?_
      try dsimp only [Int.reduceToNat, List.set]
      refine ⟨_, _, rfl, ?_, ?_⟩
      · intro b o hb
        rw [L2.upd_ne (L2.ne_of_none hb nD0)]
        exact S8 _ _ hb
      · rw [L2.upd_same, show V.bl true = (fun b => V.bl b) true from rfl, ← List.map_set, mk_set (by omega), List.take_add_one, hn, show ((n.toNat : Nat) : Int) = n by omega]
        rfl
    · subst es
      rw [List.length_map, List.take_length] at hD8
      with_reducible refine Rd.ret (Rd.var (by walk_at "vr") ?_)
      exact k _ _ S8 nD0 hD8
/-! shortest -/
theorem sc_shortest : FnScope ["marks", "period"] ["marks"] (defScope s_shortest) := ⟨rfl, rfl, rfl, by decide +kernel, rfl, by decide +kernel, by decide +kernel⟩
theorem st_shortest {v0 : V} : L2.start ["marks", "period"] [v0] = [some v0, none] := rfl
abbrev sp_shortest (K : PySem.W.Frag) (A : Adr) : Sp := fun vs H Q _ => ∃ (l : Addr) (bs : List Bool), vs = [.ref l] ∧ H l = some (.lst (bs.map V.bl)) ∧ 1 ≤ bs.length ∧ bs.length ≤ 20000 ∧ ∀ (p : Addr) (k : Nat) (H' : Hp), Same H H' → (p = l ∨ H p = none) → 1 ≤ k → k ≤ bs.length → IsP bs k → (∀ j, 1 ≤ j → j < k → ¬ IsP bs j) → H' p = some (.lst ((bs.take k).map V.bl)) → Q (.ref p) H'
theorem ok_shortest (T : Txt w K mg A) : FnOk P w K mg base CX0 1 A.f_shortest A.d_shortest ["marks"] (sp_shortest K A) := by
  refine T.F_shortest.ok sc_shortest (fun vs H Q E h => ?_) (fun cdv Ar outer s H vs Q E hr h => ?_)
  · obtain ⟨l, bs, rfl, hl, b1, b2, k⟩ := h
    rfl
  · obtain ⟨l, bs, rfl, hl, b1, b2, k⟩ := h
    have hu := hu_of hr
    have t_i_SizeSet := T.i_SizeSet
    have t_kt_NoneType_SizeSet := T.kt_NoneType_SizeSet
    have t_kt_int_SizeSet := T.kt_int_SizeSet
    have t_kt_bool_SizeSet := T.kt_bool_SizeSet
    have t_kt_str_SizeSet := T.kt_str_SizeSet
    have t_kt_tuple_SizeSet := T.kt_tuple_SizeSet
    have t_kt_list_SizeSet := T.kt_list_SizeSet
    have t_kt_dict_SizeSet := T.kt_dict_SizeSet
    have t_kt_SizeSet_SizeSet := T.kt_SizeSet_SizeSet
    have t_nf_SizeSet_SizeSet := T.nf_SizeSet_SizeSet
    have t_nf_NoneType_SizeSet := T.nf_NoneType_SizeSet
    have t_nf_int_SizeSet := T.nf_int_SizeSet
    have t_nf_bool_SizeSet := T.nf_bool_SizeSet
    have t_nf_str_SizeSet := T.nf_str_SizeSet
    have t_nf_tuple_SizeSet := T.nf_tuple_SizeSet
    have t_nf_list_SizeSet := T.nf_list_SizeSet
    have t_nf_dict_SizeSet := T.nf_dict_SizeSet
    have t_kt_NoSet_in_NoForm := T.kt_NoSet_in_NoForm
    have t_kt_NoSet_in_NoCounter := T.kt_NoSet_in_NoCounter
    have t_kt_NoSet_in_NoScheme := T.kt_NoSet_in_NoScheme
    have t_kt_NoSet_in_NoSize := T.kt_NoSet_in_NoSize
    have t_kt_NoSet_in_NoRing := T.kt_NoSet_in_NoRing
    have t_kt_NoSet_in_Outside := T.kt_NoSet_in_Outside
    have t_kt_NoSet_in_NoRun := T.kt_NoSet_in_NoRun
    have t_kt_NoSet_in_NoSet := T.kt_NoSet_in_NoSet
    have t_kt_NoSet_in_TooLong := T.kt_NoSet_in_TooLong
    have t_kt_NoSet_in_VE := T.kt_NoSet_in_VE
    have t_xm_NoSet := T.xm_NoSet
    have t_kt_TooLong_in_NoForm := T.kt_TooLong_in_NoForm
    have t_kt_TooLong_in_NoCounter := T.kt_TooLong_in_NoCounter
    have t_kt_TooLong_in_NoScheme := T.kt_TooLong_in_NoScheme
    have t_kt_TooLong_in_NoSize := T.kt_TooLong_in_NoSize
    have t_kt_TooLong_in_NoRing := T.kt_TooLong_in_NoRing
    have t_kt_TooLong_in_Outside := T.kt_TooLong_in_Outside
    have t_kt_TooLong_in_NoRun := T.kt_TooLong_in_NoRun
    have t_kt_TooLong_in_NoSet := T.kt_TooLong_in_NoSet
    have t_kt_TooLong_in_TooLong := T.kt_TooLong_in_TooLong
    have t_kt_TooLong_in_VE := T.kt_TooLong_in_VE
    have t_xm_TooLong := T.xm_TooLong
    have t_k_SizeSet := T.k_SizeSet
    have bl9 : (bs.map V.bl).length = bs.length := List.length_map _
    refine ⟨_, (pss_cons (ps_for PassesOwn.never rfl (pi_range2 (by rfl) T.n_range (pa_cons pe_int (pa_cons (pe_callB call_len_seq (by rfl) T.n_len PySem.boot_len (pa_cons (pv 0) pa_nil)) pa_nil))) (pg_name (i := 1) sc_shortest.nd rfl (Or.inl rfl)) (pss_one (ps_if (PW.pt (pw_and (pt_cmpR op_eq (pe_op op_mod (pe_callB call_len_seq (by rfl) T.n_len PySem.boot_len (pa_cons (pv 0) pa_nil)) (pv 1)) pe_int (nomark _)) (pw_and1 (pt_cmpR (op_eqD hr.units) (pe_op op_rep (pe_slice sl_list (pv 0) po_none (po_some (pv 1))) (pe_op op_fdivW (pe_callB call_len_seq (by rfl) T.n_len PySem.boot_len (pa_cons (pv 0) pa_nil)) (pv 1))) (pv 0) (nomark _))))) (pss_one (ps_ret (pe_slice sl_list (pv 0) po_none (po_some (pv 1))))) pss_nil)))
      (pss_one (ps_ret (pv 0)))), ?_⟩
    try dsimp only [L2.cxOf, L2.Cx.nox, L2.Cx.wish]
    try rw [st_shortest]
    with_reducible refine Rd.seq (Rd.fr (Rd.rng2 (Rd.cons (Rd.c (Rd.cons (Rd.cB (Rd.cons (Rd.var (by walk_at "vr") (Rd.nil (⟨_, _, rfl, (by walk_at "hpq"), (Rd.nil ?_)⟩))))))))))
    with_reducible refine ⟨_, _, rfl, ⟨(by walk_at "sc"), (by walk_at "sc"), (by walk_at "sc"), (by walk_at "sc")⟩, ?_⟩
    refine for_range (lo := 1) (fun (i : Nat) (σ : L2.St) (H' : Hp) => ∃ v1 : Option V, σ = [some (.ref l), v1] ∧ Same H H' ∧ ∀ j, 1 ≤ j → j < 1 + i → ¬ IsP bs j) ⟨_, rfl, Same.refl _, fun j a b => by omega⟩ (fun i σ H0 hi ⟨v1, es, S8, hno⟩ => ?_) (fun σ H0 ⟨v1, es, S8, hno⟩ => ?_)
    · subst es
      obtain ⟨j, ej⟩ : ∃ j : Nat, (1 : Int) + (i : Int) = (j : Int) := ⟨i + 1, by omega⟩
      rw [ej]
      have hl8 := S8 _ _ hl
      obtain ⟨q0, q1⟩ := rep_q (j := j) b2
      with_reducible refine Rd.name (Rd.ifS (Rd.and (Rd.test (Rd.op (Rd.op (Rd.cB (Rd.cons (Rd.var (by walk_at "vr") (Rd.nil (⟨_, _, rfl, (by walk_at "hpq"), (Rd.var (by walk_at "vr") ?_)⟩))))))))))
      with_reducible refine Rd.iC (by walk_at "sc") (Rd.c (Rd.eqS (by walk_at "vr") (Rd.bl ?_)))
      refine Rd.ite (fun h0 => ?_) (fun h0 => ?_)
      · try simp only [decide_eq_true_eq, Bool.not_eq_true', decide_eq_false_iff_not, Bool.not_eq_true, Bool.not_eq_eq_eq_not, Bool.not_true, Bool.not_false] at h0
        with_reducible refine Rd.test (Rd.op (Rd.op (Rd.sl (Rd.var (by walk_at "vr") (Rd.noPart (Rd.part (Rd.var (by walk_at "vr") (⟨_, rfl, ?_⟩))))))))
        refine ⟨_, _, rfl, (by walk_at "hpl"), fun c1 nc1 => ?_⟩
        rw [Rd.cut_take (by rw [List.length_map]; omega), ← List.map_take]
        with_reducible refine Rd.op (Rd.cB (Rd.cons (Rd.var (by walk_at "vr") (Rd.nil (⟨_, _, rfl, (by walk_at "hpq"), (Rd.var (by walk_at "vr") (Rd.iC (by walk_at "scd") ?_))⟩)))))
        refine ⟨_, _, _, rfl, rfl, (by walk_at "hp"), (by walk_at "sc"), (by walk_at "sc"), (by walk_at "rep"), fun c2 nc2 => ?_⟩
        rw [map_rep]
        with_reducible refine Rd.var (by walk_at "vr") ?_
        refine ⟨_, _, (by walk_at "dp"), (by walk_at "dp"), (by walk_at "shp"), (by walk_at "shp"), ?_⟩
        with_reducible refine Rd.bl ?_
        refine Rd.ite (fun h1 => ?_) (fun h1 => ?_)
        · try simp only [decide_eq_true_eq, Bool.not_eq_true', decide_eq_false_iff_not, Bool.not_eq_true, Bool.not_eq_eq_eq_not, Bool.not_true, Bool.not_false] at h1
          with_reducible refine Rd.ret (Rd.sl (Rd.var (by walk_at "vr") (Rd.noPart (Rd.part (Rd.var (by walk_at "vr") (⟨_, rfl, ?_⟩))))))
          refine ⟨_, _, rfl, (by walk_at "hpl"), fun c3 nc3 => ?_⟩
          rw [Rd.cut_take (by rw [List.length_map]; omega), ← List.map_take]
          exact k _ j _ (by walk_at "frm") (.inr (by walk_at "nn")) (by omega) (by omega) (isP_iff.mpr ⟨h0, h1⟩) (fun i2 a b => hno i2 a (by omega)) L2.upd_same
        · try simp only [decide_eq_true_eq, Bool.not_eq_true', decide_eq_false_iff_not, Bool.not_eq_true, Bool.not_eq_eq_eq_not, Bool.not_true, Bool.not_false, Int.not_lt, Int.not_le, Decidable.not_not] at h1
          with_reducible refine Rd.next ?_
          refine ⟨_, rfl, (by walk_at "frm"), fun i2 a b => ?_⟩
          rcases (by omega : i2 < 1 + i ∨ i2 = j) with q | q
          · exact hno i2 a q
          · subst q
            intro z
            obtain ⟨z1, z2⟩ := isP_iff.mp z
            first | exact h0 z1 | (rw [z2] at h1; cases h1)
      · try simp only [decide_eq_true_eq, Bool.not_eq_true', decide_eq_false_iff_not, Bool.not_eq_true, Bool.not_eq_eq_eq_not, Bool.not_true, Bool.not_false, Int.not_lt, Int.not_le, Decidable.not_not] at h0
        with_reducible refine Rd.iteF rfl (Rd.next ?_)
        refine ⟨_, rfl, (by walk_at "frm"), fun i2 a b => ?_⟩
        rcases (by omega : i2 < 1 + i ∨ i2 = j) with q | q
        · exact hno i2 a q
        · subst q
          intro z
          obtain ⟨z1, z2⟩ := isP_iff.mp z
          first | exact h0 z1 | (rw [z2] at h1; cases h1)
    · subst es
      with_reducible refine Rd.ret (Rd.var (by walk_at "vr") ?_)
      exact k l bs.length H0 S8 (.inl rfl) b1 (Nat.le_refl _) (isP_len b1) (fun i2 a b => hno i2 a (by omega)) (by rw [List.take_length]; exact S8 _ _ hl)
/-! SizeSet.__init__ -/
theorem sc_SizeSetu__initu_ : FnScope ["self", "early", "start", "period", "rests", "rest_marks", "early_marks", "number"] ["self", "early", "start", "period", "rests"] (defScope s_SizeSetu__initu_) := ⟨rfl, rfl, rfl, by decide +kernel, rfl, by decide +kernel, by decide +kernel⟩
theorem st_SizeSetu__initu_ {v0 v1 v2 v3 v4 : V} : L2.start ["self", "early", "start", "period", "rests", "rest_marks", "early_marks", "number"] [v0, v1, v2, v3, v4] = [some v0, some v1, some v2, some v3, some v4, none, none, none] := rfl
abbrev sp_SizeSetu__initu_ (K : PySem.W.Frag) (A : Adr) : Sp := fun vs H Q E => ∃ (p dx : Addr) (e s q r : V), vs = [.ref p, e, s, q, r] ∧ H p = some (.ins A.c_SizeSet dx []) ∧ ((∃ (le lr : Addr) (w : Rows), e = .ref le ∧ s = .int w.s ∧ q = .int w.p ∧ r = .ref lr ∧ H le = some (.lst (w.E.map V.int)) ∧ H lr = some (.lst (w.R.map V.int)) ∧ w.Ok ∧ w.s ≤ 20000 ∧ w.p ≤ 5000 ∧ ∀ (t : Rows) (H' : Hp), Frm p H H' → Canon w t → SetNew A H H' p w t → Q .non H') ∨ (BadR K H e s q r ∧ E (.ref A.c_NoSet) none H))
theorem ok_SizeSetu__initu_ (T : Txt w K mg A) : FnOk P w K mg base (L2.CX P w) 5 A.f_SizeSetu__initu_ A.d_SizeSetu__initu_ ["self", "early", "start", "period", "rests"] (sp_SizeSetu__initu_ K A) := by
  refine T.F_SizeSetu__initu_.okX sc_SizeSetu__initu_ (fun vs H Q E h => ?_) (fun cdv Ar outer s H vs Q E hr h => ?_)
  · obtain ⟨p, dx, e, s, q, r, rfl, hp, hy⟩ := h
    rfl
  · obtain ⟨p, dx, e, s, q, r, rfl, hp, hy⟩ := h
    have hu := hu_of hr
    have t_i_SizeSet := T.i_SizeSet
    have t_kt_NoneType_SizeSet := T.kt_NoneType_SizeSet
    have t_kt_int_SizeSet := T.kt_int_SizeSet
    have t_kt_bool_SizeSet := T.kt_bool_SizeSet
    have t_kt_str_SizeSet := T.kt_str_SizeSet
    have t_kt_tuple_SizeSet := T.kt_tuple_SizeSet
    have t_kt_list_SizeSet := T.kt_list_SizeSet
    have t_kt_dict_SizeSet := T.kt_dict_SizeSet
    have t_kt_SizeSet_SizeSet := T.kt_SizeSet_SizeSet
    have t_nf_SizeSet_SizeSet := T.nf_SizeSet_SizeSet
    have t_nf_NoneType_SizeSet := T.nf_NoneType_SizeSet
    have t_nf_int_SizeSet := T.nf_int_SizeSet
    have t_nf_bool_SizeSet := T.nf_bool_SizeSet
    have t_nf_str_SizeSet := T.nf_str_SizeSet
    have t_nf_tuple_SizeSet := T.nf_tuple_SizeSet
    have t_nf_list_SizeSet := T.nf_list_SizeSet
    have t_nf_dict_SizeSet := T.nf_dict_SizeSet
    have t_kt_NoSet_in_NoForm := T.kt_NoSet_in_NoForm
    have t_kt_NoSet_in_NoCounter := T.kt_NoSet_in_NoCounter
    have t_kt_NoSet_in_NoScheme := T.kt_NoSet_in_NoScheme
    have t_kt_NoSet_in_NoSize := T.kt_NoSet_in_NoSize
    have t_kt_NoSet_in_NoRing := T.kt_NoSet_in_NoRing
    have t_kt_NoSet_in_Outside := T.kt_NoSet_in_Outside
    have t_kt_NoSet_in_NoRun := T.kt_NoSet_in_NoRun
    have t_kt_NoSet_in_NoSet := T.kt_NoSet_in_NoSet
    have t_kt_NoSet_in_TooLong := T.kt_NoSet_in_TooLong
    have t_kt_NoSet_in_VE := T.kt_NoSet_in_VE
    have t_xm_NoSet := T.xm_NoSet
    have t_kt_TooLong_in_NoForm := T.kt_TooLong_in_NoForm
    have t_kt_TooLong_in_NoCounter := T.kt_TooLong_in_NoCounter
    have t_kt_TooLong_in_NoScheme := T.kt_TooLong_in_NoScheme
    have t_kt_TooLong_in_NoSize := T.kt_TooLong_in_NoSize
    have t_kt_TooLong_in_NoRing := T.kt_TooLong_in_NoRing
    have t_kt_TooLong_in_Outside := T.kt_TooLong_in_Outside
    have t_kt_TooLong_in_NoRun := T.kt_TooLong_in_NoRun
    have t_kt_TooLong_in_NoSet := T.kt_TooLong_in_NoSet
    have t_kt_TooLong_in_TooLong := T.kt_TooLong_in_TooLong
    have t_kt_TooLong_in_VE := T.kt_TooLong_in_VE
    have t_xm_TooLong := T.xm_TooLong
    have t_k_SizeSet := T.k_SizeSet
    rcases hy with ⟨le, lr, w, rfl, rfl, rfl, rfl, hE, hR, ok, sb2, pb, k⟩ | ⟨hb, k⟩
    · have s1 := ok.s1
      have p1 := ok.p1
      have aE := ok.hE
      have aR := ok.hR
      have lE := asc_200 aE (by omega)
      have lR := asc_200 aR (by omega)
      have nle : le ≠ p := L2.ne_of hE hp (by intro z; cases z)
      have nlr : lr ≠ p := L2.ne_of hR hp (by intro z; cases z)
      refine ⟨_, (pss_cons (ps_expr (pe_call (ok_check_parts T) (hr.mono (by decide)) (by rfl) T.m_check_parts T.F_check_parts.kp T.b_check_parts .nil (passes_call (takes_of rfl rfl rfl rfl) fun _ _ _ _ h => h) (pa_cons (pv 1) (pa_cons (pv 2) (pa_cons (pv 3) (pa_cons (pv 4) pa_nil))))))
      (pss_cons (ps_set (i := 5) sc_SizeSetu__initu_.nd rfl (Or.inl rfl) (pe_call (ok_shortest T) (hr.mono (by decide)) (by rfl) T.m_shortest T.F_shortest.kp T.b_shortest .nil pass0 (pa_cons (pe_call (ok_marks_of T) (hr.mono (by decide)) (by rfl) T.m_marks_of T.F_marks_of.kp T.b_marks_of .nil pass0 (pa_cons (pv 4) (pa_cons (pv 3) pa_nil))) pa_nil)))
      (pss_cons (ps_set (i := 6) sc_SizeSetu__initu_.nd rfl (Or.inl rfl) (pe_call (ok_marks_of T) (hr.mono (by decide)) (by rfl) T.m_marks_of T.F_marks_of.kp T.b_marks_of .nil pass0 (pa_cons (pv 1) (pa_cons (pv 2) pa_nil))))
      (pss_cons (ps_fld (pv 0) (pe_callB call_len_seq (by rfl) T.n_len PySem.boot_len (pa_cons (pv 5) pa_nil)) rfl)
      (pss_cons (ps_fld (pv 0) (pe_call (ok_least_start T) (hr.mono (by decide)) (by rfl) T.m_least_start T.F_least_start.kp T.b_least_start .nil pass0 (pa_cons (pv 6) (pa_cons (pv 5) pa_nil))) rfl)
      (pss_cons (ps_fld (pv 0) (by exact (pe_lc (own := [("number", 7)]) (g := gName 7) rfl sc_SizeSetu__initu_.nd (pi_list (pv 1)) (blkOk_by (own := [("number", 7)]) (N := ["self", "early", "start", "period", "rests", "rest_marks", "early_marks", "number"]) (sc := defScope s_SizeSetu__initu_) (by decide +kernel)) (fun _ _ _ _ _ => (pg_name (i := 7) sc_SizeSetu__initu_.nd rfl (Or.inl rfl))) (fun _ _ _ _ _ => pts_one (pt_cmpR op_lt (pv 7) (Rd.pe_fldK (K := K) rfl (pv 0) rfl) (nomark _))) (fun _ _ _ _ _ => (pv 7)))) rfl)
      (pss_cons (ps_fld (pv 0) (by exact (pe_lc (own := [("number", 7)]) (g := gName 7) rfl sc_SizeSetu__initu_.nd (pi_list (pv 4)) (blkOk_by (own := [("number", 7)]) (N := ["self", "early", "start", "period", "rests", "rest_marks", "early_marks", "number"]) (sc := defScope s_SizeSetu__initu_) (by decide +kernel)) (fun _ _ _ _ _ => (pg_name (i := 7) sc_SizeSetu__initu_.nd rfl (Or.inl rfl))) (fun _ _ _ _ _ => pts_one (pt_cmpR op_lt (pv 7) (Rd.pe_fldK (K := K) rfl (pv 0) rfl) (nomark _))) (fun _ _ _ _ _ => (pv 7)))) rfl)
      (pss_cons (ps_fld (pv 0) (pv 6) rfl)
      (pss_one (ps_fld (pv 0) (pv 5) rfl)))))))))), ?_⟩
      try dsimp only [L2.cxOf, L2.Cx.nox, L2.Cx.wish]
      try rw [st_SizeSetu__initu_]
      with_reducible refine Rd.seq (Rd.drop (Rd.call (Rd.cons (Rd.var (by walk_at "vr") (Rd.cons (Rd.var (by walk_at "vr") (Rd.cons (Rd.var (by walk_at "vr") (Rd.cons (Rd.var (by walk_at "vr") (Rd.nil ?_)))))))))))
      refine ⟨_, _, _, _, rfl, .inl ⟨_, _, rfl, rfl, (by omega), (by omega), (by omega), (by omega), ⟨_, _, rfl, (by walk_at "hp"), (by assumption)⟩, ⟨_, _, rfl, (by walk_at "hp"), (by assumption)⟩, ?_⟩⟩
      with_reducible refine Rd.seq (Rd.asg (Rd.call (Rd.cons (Rd.call (Rd.cons (Rd.var (by walk_at "vr") (Rd.cons (Rd.var (by walk_at "vr") (Rd.nil ?_)))))))))
      refine ⟨_, _, _, rfl, (by walk_at "hpl"), (fun x hx => by have := aR.mem x hx; omega), (by omega), (by omega), fun b1 H1 S1 nb1 hb1 => ?_⟩
      with_reducible refine Rd.nil ?_
      refine ⟨_, _, rfl, (by walk_at "hp"), (by rw [mk_len]; omega), (by rw [mk_len]; omega), fun rm kk H2 S2 kn ka kb kc kd hrm => ?_⟩
      have rl9 : (((mk w.R w.p.toNat).take kk).map V.bl).length = kk := by rw [List.length_map, List.length_take]; omega
      with_reducible refine Rd.name ?_
      try dsimp only [Int.reduceToNat, List.set]
      with_reducible refine Rd.seq (Rd.asg (Rd.call (Rd.cons (Rd.var (by walk_at "vr") (Rd.cons (Rd.var (by walk_at "vr") (Rd.nil ?_)))))))
      refine ⟨_, _, _, rfl, (by walk_at "hpl"), (fun x hx => by have := aE.mem x hx; omega), (by omega), (by omega), fun em H3 S3 nem hem => ?_⟩
      with_reducible refine Rd.name ?_
      try dsimp only [Int.reduceToNat, List.set]
      with_reducible refine Rd.seq (Rd.sfld (Rd.cB (Rd.cons (Rd.var (by walk_at "vr") (Rd.nil (⟨_, _, rfl, (by walk_at "hpq"), (Rd.var (by walk_at "vr") (⟨_, _, _, _, rfl, (by walk_at "hp"), T.k_SizeSet, T.n_SizeSet_period, (by walk_at "sfl"), ?_⟩))⟩))))))
      rw [rl9]
      with_reducible refine Rd.seq (Rd.sfld (Rd.call (Rd.cons (Rd.var (by walk_at "vr") (Rd.cons (Rd.var (by walk_at "vr") (Rd.nil ?_)))))))
      refine ⟨_, _, _, _, rfl, (by walk_at "hpl"), (by walk_at "hpl"), (by rw [mk_len]; omega), (by rw [mk_len]; omega), (by rw [List.length_take]; omega), (by rw [List.length_take]; rw [mk_len] at kb; rw [mk_len]; omega), fun st sa sb sc sd => ?_⟩
      with_reducible refine Rd.var (by walk_at "vr") (⟨_, _, _, _, rfl, (by walk_at "hp"), T.k_SizeSet, T.n_SizeSet_start, (by walk_at "sfl"), ?_⟩)
      rw [L2.upd_upd, fZ2_put]
      refine Rd.comp (fun Hx => Frm p H Hx ∧ Hx p = some (.ins A.c_SizeSet dx (fZ2 kk st)) ∧ Hx le = some (.lst (w.E.map V.int)) ∧ Hx lr = some (.lst (w.R.map V.int)) ∧ Hx rm = some (.lst (((mk w.R w.p.toNat).take kk).map V.bl)) ∧ Hx em = some (.lst ((mk w.E w.s.toNat).map V.bl))) ⟨by walk_at "frm", L2.upd_same, (by walk_at "hp"), (by walk_at "hp"), (by walk_at "hp"), (by walk_at "hp")⟩ (fun Ha ⟨Fa, pa, la, lb, ra, ea⟩ => ?_)
      have can := canon_of ok ka kb kc kd sa sb sc sd
      with_reducible refine Rd.seq (Rd.sfld (Rd.lc (Rd.il (Rd.var (by walk_at "vr") ?_))))
      refine ⟨_, rfl, ⟨_, (by walk_at "hpl")⟩, ?_⟩
      intro D0 nD0
      refine' lc_list (fun i H' => Same Ha H' ∧ H' D0 = some (.lst (((w.E.take i).filter (fun x => decide (x < st))).map V.int))) (⟨by walk_at "frm", L2.upd_same⟩) (fun i H' _ p => .of (p.1 _ _ la)) (fun i x H' hx p => ?lct0_u12) (fun H' p => ?lcd0_u12)
      case lct0_u12 =>
        obtain ⟨S9, hD⟩ := p
        rw [List.getElem?_map] at hx
        obtain ⟨n, hn, rfl⟩ := Option.map_eq_some_iff.mp hx
        have al9 : (((w.E.take i).filter (fun x => decide (x < st))).map V.int).length ≤ 29000 := by
          rw [List.length_map]
          have q1 := List.length_filter_le (fun x => decide (x < st)) (w.E.take i)
          have q2 := List.length_take_le' i w.E
          omega
        with_reducible refine Rd.name ?_
        refine ⟨rfl, ?_⟩
        with_reducible refine Rd.test (Rd.op (Rd.var (by walk_at "vr") (Rd.fld (Rd.var (by walk_at "vr") (⟨_, _, _, _, _, rfl, (by walk_at "hp"), T.k_SizeSet, T.n_SizeSet_start, (by walk_at "lk"), (Rd.i0 (Rd.bl ?_))⟩)))))
        refine Rd.ite (fun h0 => ?_) (fun h0 => ?_)
        · try simp only [decide_eq_true_eq, Bool.not_eq_true', decide_eq_false_iff_not, Bool.not_eq_true, Bool.not_eq_eq_eq_not, Bool.not_true, Bool.not_false] at h0
          with_reducible refine Rd.var (by walk_at "vr") ?_
          refine ⟨_, (by walk_at "hp"), (by walk_at "sz"), ?_⟩
          refine ⟨by walk_at "frm", ?_⟩
          rw [filt_yes hn (by omega)]
          exact L2.upd_same
        · try simp only [decide_eq_true_eq, Bool.not_eq_true', decide_eq_false_iff_not, Bool.not_eq_true, Bool.not_eq_eq_eq_not, Bool.not_true, Bool.not_false, Int.not_lt, Int.not_le, Decidable.not_not] at h0
          exact ⟨S9, by rw [← filt_no hn (by omega)]; exact hD⟩
      obtain ⟨S5, hD5⟩ := p
      rw [List.length_map, List.take_length] at hD5
      with_reducible refine Rd.var (by walk_at "vr") (⟨_, _, _, _, rfl, (by walk_at "hp"), T.k_SizeSet, T.n_SizeSet_early, (by walk_at "sfl"), ?_⟩)
      rw [fZ3_put]
      refine Rd.comp (fun Hx => Frm p H Hx ∧ Hx p = some (.ins A.c_SizeSet dx (fZ3 kk st D0)) ∧ Hx lr = some (.lst (w.R.map V.int)) ∧ Hx rm = some (.lst (((mk w.R w.p.toNat).take kk).map V.bl)) ∧ Hx em = some (.lst ((mk w.E w.s.toNat).map V.bl)) ∧ Hx D0 = some (.lst ((w.E.filter (fun x => decide (x < st))).map V.int))) ⟨by walk_at "frm", L2.upd_same, (by walk_at "hp"), (by walk_at "hp"), (by walk_at "hp"), (by walk_at "hp")⟩ (fun Hb ⟨Fb, pb2, lb2, rb2, eb2, db2⟩ => ?_)
      with_reducible refine Rd.seq (Rd.sfld (Rd.lc (Rd.il (Rd.var (by walk_at "vr") ?_))))
      refine ⟨_, rfl, ⟨_, (by walk_at "hpl")⟩, ?_⟩
      intro D1 nD1
      refine' lc_list (fun i H' => Same Hb H' ∧ H' D1 = some (.lst (((w.R.take i).filter (fun x => decide (x < (kk : Int)))).map V.int))) (⟨by walk_at "frm", L2.upd_same⟩) (fun i H' _ p => .of (p.1 _ _ lb2)) (fun i x H' hx p => ?lct1_u13) (fun H' p => ?lcd1_u13)
      case lct1_u13 =>
        obtain ⟨S9, hD⟩ := p
        rw [List.getElem?_map] at hx
        obtain ⟨n, hn, rfl⟩ := Option.map_eq_some_iff.mp hx
        have al9 : (((w.R.take i).filter (fun x => decide (x < (kk : Int)))).map V.int).length ≤ 29000 := by
          rw [List.length_map]
          have q1 := List.length_filter_le (fun x => decide (x < (kk : Int))) (w.R.take i)
          have q2 := List.length_take_le' i w.R
          omega
        with_reducible refine Rd.name ?_
        refine ⟨rfl, ?_⟩
        with_reducible refine Rd.test (Rd.op (Rd.var (by walk_at "vr") (Rd.fld (Rd.var (by walk_at "vr") (⟨_, _, _, _, _, rfl, (by walk_at "hp"), T.k_SizeSet, T.n_SizeSet_period, (by walk_at "lk"), (Rd.i0 (Rd.bl ?_))⟩)))))
        refine Rd.ite (fun h1 => ?_) (fun h1 => ?_)
        · try simp only [decide_eq_true_eq, Bool.not_eq_true', decide_eq_false_iff_not, Bool.not_eq_true, Bool.not_eq_eq_eq_not, Bool.not_true, Bool.not_false] at h1
          with_reducible refine Rd.var (by walk_at "vr") ?_
          refine ⟨_, (by walk_at "hp"), (by walk_at "sz"), ?_⟩
          refine ⟨by walk_at "frm", ?_⟩
          rw [filt_yes hn (by omega)]
          exact L2.upd_same
        · try simp only [decide_eq_true_eq, Bool.not_eq_true', decide_eq_false_iff_not, Bool.not_eq_true, Bool.not_eq_eq_eq_not, Bool.not_true, Bool.not_false, Int.not_lt, Int.not_le, Decidable.not_not] at h1
          exact ⟨S9, by rw [← filt_no hn (by omega)]; exact hD⟩
      obtain ⟨S6, hD6⟩ := p
      rw [List.length_map, List.take_length] at hD6
      with_reducible refine Rd.var (by walk_at "vr") (⟨_, _, _, _, rfl, (by walk_at "hp"), T.k_SizeSet, T.n_SizeSet_rests, (by walk_at "sfl"), (Rd.seq (Rd.sfld (Rd.var (by walk_at "vr") (Rd.var (by walk_at "vr") (⟨_, _, _, _, rfl, (by walk_at "hp"), T.k_SizeSet, T.n_SizeSet_early_marks, (by walk_at "sfl"), (Rd.sfld (Rd.var (by walk_at "vr") (Rd.var (by walk_at "vr") (⟨_, _, _, _, rfl, (by walk_at "hp"), T.k_SizeSet, T.n_SizeSet_rest_marks, (by walk_at "sfl"), ?_⟩))))⟩)))))⟩)
      (repeat rw [L2.upd_upd])
      rw [fZ_put]
      have nrm : H rm = none := by
        rcases kn with e | kn
        · rw [e]; exact nb1
        · exact L2.Same.free S1 kn
      have nemH : H em = none := L2.Same.free S1 (L2.Same.free S2 nem)
      exact k _ _ (by walk_at "frm") can (set_new (dx := dx) (ea := D0) (re := D1) (em := em) (rm := rm) L2.upd_same (by walk_at "hp") (by walk_at "hp") (by walk_at "hp") (by show _ = some (L2.HO.lst (((mk w.R w.p.toNat).take ((kk : Int)).toNat).map V.bl)); rw [Int.toNat_natCast]; walk_at "hp") (fun a o ha na => ⟨ne_none' nD0 (Fa _ _ ha na), ne_none' nD1 (Fb _ _ ha na), ne_none' nemH ha, ne_none' nrm ha⟩))
    · skip
      refine ⟨_, (pss_cons (ps_expr (pe_call (ok_check_parts T) (hr.mono (by decide)) (by rfl) T.m_check_parts T.F_check_parts.kp T.b_check_parts .nil (passes_call (takes_of rfl rfl rfl rfl) fun _ _ _ _ h => h) (pa_cons (pv 1) (pa_cons (pv 2) (pa_cons (pv 3) (pa_cons (pv 4) pa_nil))))))
      (pss_cons ps_never (pss_cons ps_never (pss_cons ps_never (pss_cons ps_never (pss_cons ps_never (pss_cons ps_never (pss_cons ps_never (pss_one ps_never))))))))), ?_⟩
      try dsimp only [L2.cxOf, L2.Cx.nox, L2.Cx.wish]
      try rw [st_SizeSetu__initu_]
      with_reducible refine Rd.seq (Rd.drop (Rd.call (Rd.cons (Rd.var (by walk_at "vr") (Rd.cons (Rd.var (by walk_at "vr") (Rd.cons (Rd.var (by walk_at "vr") (Rd.cons (Rd.var (by walk_at "vr") (Rd.nil ?_)))))))))))
      refine ⟨_, _, _, _, rfl, .inr ⟨hb, k⟩⟩
/-! SizeSet.start -/
theorem sc_SizeSet_start : FnScope ["self"] ["self"] (defScope s_SizeSet_start) := ⟨rfl, rfl, rfl, by decide +kernel, rfl, by decide +kernel, by decide +kernel⟩
abbrev sp_SizeSet_start (K : PySem.W.Frag) (A : Adr) : Sp := fun vs H Q _ => ∃ (p : Addr) (w t : Rows), vs = [.ref p] ∧ IsSet A H p w t ∧ Q (.int t.s) H
theorem ok_SizeSet_start (T : Txt w K mg A) : FnOk P w K mg base CX0 1 A.f_SizeSet_start A.d_SizeSet_start ["self"] (sp_SizeSet_start K A) := by
  refine T.F_SizeSet_start.ok sc_SizeSet_start (fun vs H Q E h => ?_) (fun cdv Ar outer s H vs Q E hr h => ?_)
  · obtain ⟨p, w, t, rfl, ⟨dx, ea, re, em, rm, hp, hea, hre, hem, hrm⟩, k⟩ := h
    rfl
  · obtain ⟨p, w, t, rfl, ⟨dx, ea, re, em, rm, hp, hea, hre, hem, hrm⟩, k⟩ := h
    have hu := hu_of hr
    have t_i_SizeSet := T.i_SizeSet
    have t_kt_NoneType_SizeSet := T.kt_NoneType_SizeSet
    have t_kt_int_SizeSet := T.kt_int_SizeSet
    have t_kt_bool_SizeSet := T.kt_bool_SizeSet
    have t_kt_str_SizeSet := T.kt_str_SizeSet
    have t_kt_tuple_SizeSet := T.kt_tuple_SizeSet
    have t_kt_list_SizeSet := T.kt_list_SizeSet
    have t_kt_dict_SizeSet := T.kt_dict_SizeSet
    have t_kt_SizeSet_SizeSet := T.kt_SizeSet_SizeSet
    have t_nf_SizeSet_SizeSet := T.nf_SizeSet_SizeSet
    have t_nf_NoneType_SizeSet := T.nf_NoneType_SizeSet
    have t_nf_int_SizeSet := T.nf_int_SizeSet
    have t_nf_bool_SizeSet := T.nf_bool_SizeSet
    have t_nf_str_SizeSet := T.nf_str_SizeSet
    have t_nf_tuple_SizeSet := T.nf_tuple_SizeSet
    have t_nf_list_SizeSet := T.nf_list_SizeSet
    have t_nf_dict_SizeSet := T.nf_dict_SizeSet
    have t_kt_NoSet_in_NoForm := T.kt_NoSet_in_NoForm
    have t_kt_NoSet_in_NoCounter := T.kt_NoSet_in_NoCounter
    have t_kt_NoSet_in_NoScheme := T.kt_NoSet_in_NoScheme
    have t_kt_NoSet_in_NoSize := T.kt_NoSet_in_NoSize
    have t_kt_NoSet_in_NoRing := T.kt_NoSet_in_NoRing
    have t_kt_NoSet_in_Outside := T.kt_NoSet_in_Outside
    have t_kt_NoSet_in_NoRun := T.kt_NoSet_in_NoRun
    have t_kt_NoSet_in_NoSet := T.kt_NoSet_in_NoSet
    have t_kt_NoSet_in_TooLong := T.kt_NoSet_in_TooLong
    have t_kt_NoSet_in_VE := T.kt_NoSet_in_VE
    have t_xm_NoSet := T.xm_NoSet
    have t_kt_TooLong_in_NoForm := T.kt_TooLong_in_NoForm
    have t_kt_TooLong_in_NoCounter := T.kt_TooLong_in_NoCounter
    have t_kt_TooLong_in_NoScheme := T.kt_TooLong_in_NoScheme
    have t_kt_TooLong_in_NoSize := T.kt_TooLong_in_NoSize
    have t_kt_TooLong_in_NoRing := T.kt_TooLong_in_NoRing
    have t_kt_TooLong_in_Outside := T.kt_TooLong_in_Outside
    have t_kt_TooLong_in_NoRun := T.kt_TooLong_in_NoRun
    have t_kt_TooLong_in_NoSet := T.kt_TooLong_in_NoSet
    have t_kt_TooLong_in_TooLong := T.kt_TooLong_in_TooLong
    have t_kt_TooLong_in_VE := T.kt_TooLong_in_VE
    have t_xm_TooLong := T.xm_TooLong
    have t_k_SizeSet := T.k_SizeSet
    refine ⟨_, (pss_one (ps_ret (pe_fld (pv 0) rfl))), ?_⟩
    try dsimp only [L2.cxOf, L2.Cx.nox, L2.Cx.wish]
    with_reducible refine Rd.ret (Rd.fld (Rd.var (by walk_at "vr") (⟨_, _, _, _, _, rfl, (by walk_at "hp"), T.k_SizeSet, T.n_SizeSet_start, (by walk_at "lk"), ?_⟩)))
    exact k
/-! SizeSet.period -/
theorem sc_SizeSet_period : FnScope ["self"] ["self"] (defScope s_SizeSet_period) := ⟨rfl, rfl, rfl, by decide +kernel, rfl, by decide +kernel, by decide +kernel⟩
abbrev sp_SizeSet_period (K : PySem.W.Frag) (A : Adr) : Sp := fun vs H Q _ => ∃ (p : Addr) (w t : Rows), vs = [.ref p] ∧ IsSet A H p w t ∧ Q (.int t.p) H
theorem ok_SizeSet_period (T : Txt w K mg A) : FnOk P w K mg base CX0 1 A.f_SizeSet_period A.d_SizeSet_period ["self"] (sp_SizeSet_period K A) := by
  refine T.F_SizeSet_period.ok sc_SizeSet_period (fun vs H Q E h => ?_) (fun cdv Ar outer s H vs Q E hr h => ?_)
  · obtain ⟨p, w, t, rfl, ⟨dx, ea, re, em, rm, hp, hea, hre, hem, hrm⟩, k⟩ := h
    rfl
  · obtain ⟨p, w, t, rfl, ⟨dx, ea, re, em, rm, hp, hea, hre, hem, hrm⟩, k⟩ := h
    have hu := hu_of hr
    have t_i_SizeSet := T.i_SizeSet
    have t_kt_NoneType_SizeSet := T.kt_NoneType_SizeSet
    have t_kt_int_SizeSet := T.kt_int_SizeSet
    have t_kt_bool_SizeSet := T.kt_bool_SizeSet
    have t_kt_str_SizeSet := T.kt_str_SizeSet
    have t_kt_tuple_SizeSet := T.kt_tuple_SizeSet
    have t_kt_list_SizeSet := T.kt_list_SizeSet
    have t_kt_dict_SizeSet := T.kt_dict_SizeSet
    have t_kt_SizeSet_SizeSet := T.kt_SizeSet_SizeSet
    have t_nf_SizeSet_SizeSet := T.nf_SizeSet_SizeSet
    have t_nf_NoneType_SizeSet := T.nf_NoneType_SizeSet
    have t_nf_int_SizeSet := T.nf_int_SizeSet
    have t_nf_bool_SizeSet := T.nf_bool_SizeSet
    have t_nf_str_SizeSet := T.nf_str_SizeSet
    have t_nf_tuple_SizeSet := T.nf_tuple_SizeSet
    have t_nf_list_SizeSet := T.nf_list_SizeSet
    have t_nf_dict_SizeSet := T.nf_dict_SizeSet
    have t_kt_NoSet_in_NoForm := T.kt_NoSet_in_NoForm
    have t_kt_NoSet_in_NoCounter := T.kt_NoSet_in_NoCounter
    have t_kt_NoSet_in_NoScheme := T.kt_NoSet_in_NoScheme
    have t_kt_NoSet_in_NoSize := T.kt_NoSet_in_NoSize
    have t_kt_NoSet_in_NoRing := T.kt_NoSet_in_NoRing
    have t_kt_NoSet_in_Outside := T.kt_NoSet_in_Outside
    have t_kt_NoSet_in_NoRun := T.kt_NoSet_in_NoRun
    have t_kt_NoSet_in_NoSet := T.kt_NoSet_in_NoSet
    have t_kt_NoSet_in_TooLong := T.kt_NoSet_in_TooLong
    have t_kt_NoSet_in_VE := T.kt_NoSet_in_VE
    have t_xm_NoSet := T.xm_NoSet
    have t_kt_TooLong_in_NoForm := T.kt_TooLong_in_NoForm
    have t_kt_TooLong_in_NoCounter := T.kt_TooLong_in_NoCounter
    have t_kt_TooLong_in_NoScheme := T.kt_TooLong_in_NoScheme
    have t_kt_TooLong_in_NoSize := T.kt_TooLong_in_NoSize
    have t_kt_TooLong_in_NoRing := T.kt_TooLong_in_NoRing
    have t_kt_TooLong_in_Outside := T.kt_TooLong_in_Outside
    have t_kt_TooLong_in_NoRun := T.kt_TooLong_in_NoRun
    have t_kt_TooLong_in_NoSet := T.kt_TooLong_in_NoSet
    have t_kt_TooLong_in_TooLong := T.kt_TooLong_in_TooLong
    have t_kt_TooLong_in_VE := T.kt_TooLong_in_VE
    have t_xm_TooLong := T.xm_TooLong
    have t_k_SizeSet := T.k_SizeSet
    refine ⟨_, (pss_one (ps_ret (pe_fld (pv 0) rfl))), ?_⟩
    try dsimp only [L2.cxOf, L2.Cx.nox, L2.Cx.wish]
    with_reducible refine Rd.ret (Rd.fld (Rd.var (by walk_at "vr") (⟨_, _, _, _, _, rfl, (by walk_at "hp"), T.k_SizeSet, T.n_SizeSet_period, (by walk_at "lk"), ?_⟩)))
    exact k
/-! SizeSet.__contains__ -/
theorem sc_SizeSetu__containsu_ : FnScope ["self", "x"] ["self", "x"] (defScope s_SizeSetu__containsu_) := ⟨rfl, rfl, rfl, by decide +kernel, rfl, by decide +kernel, by decide +kernel⟩
theorem st_SizeSetu__containsu_ {v0 v1 : V} : L2.start ["self", "x"] [v0, v1] = [some v0, some v1] := rfl
abbrev sp_SizeSetu__containsu_ (K : PySem.W.Frag) (A : Adr) : Sp := fun vs H Q _ => ∃ (p : Addr) (w t : Rows) (y : V), vs = [.ref p, y] ∧ IsSet A H p w t ∧ Canon w t ∧ w.Ok ∧ ((∃ n : Int, y = .int n ∧ Q (.bl (decide (1 ≤ n) && w.has n)) H) ∨ (Odd K H y ∧ Q (.bl false) H))
theorem ok_SizeSetu__containsu_ (T : Txt w K mg A) : FnOk P w K mg base CX0 2 A.f_SizeSetu__containsu_ A.d_SizeSetu__containsu_ ["self", "x"] (sp_SizeSetu__containsu_ K A) := by
  refine T.F_SizeSetu__containsu_.ok sc_SizeSetu__containsu_ (fun vs H Q E h => ?_) (fun cdv Ar outer s H vs Q E hr h => ?_)
  · obtain ⟨p, w, t, y, rfl, ⟨dx, ea, re, em, rm, hp, hea, hre, hem, hrm⟩, can, ok, hy⟩ := h
    rfl
  · obtain ⟨p, w, t, y, rfl, ⟨dx, ea, re, em, rm, hp, hea, hre, hem, hrm⟩, can, ok, hy⟩ := h
    have hu := hu_of hr
    have t_i_SizeSet := T.i_SizeSet
    have t_kt_NoneType_SizeSet := T.kt_NoneType_SizeSet
    have t_kt_int_SizeSet := T.kt_int_SizeSet
    have t_kt_bool_SizeSet := T.kt_bool_SizeSet
    have t_kt_str_SizeSet := T.kt_str_SizeSet
    have t_kt_tuple_SizeSet := T.kt_tuple_SizeSet
    have t_kt_list_SizeSet := T.kt_list_SizeSet
    have t_kt_dict_SizeSet := T.kt_dict_SizeSet
    have t_kt_SizeSet_SizeSet := T.kt_SizeSet_SizeSet
    have t_nf_SizeSet_SizeSet := T.nf_SizeSet_SizeSet
    have t_nf_NoneType_SizeSet := T.nf_NoneType_SizeSet
    have t_nf_int_SizeSet := T.nf_int_SizeSet
    have t_nf_bool_SizeSet := T.nf_bool_SizeSet
    have t_nf_str_SizeSet := T.nf_str_SizeSet
    have t_nf_tuple_SizeSet := T.nf_tuple_SizeSet
    have t_nf_list_SizeSet := T.nf_list_SizeSet
    have t_nf_dict_SizeSet := T.nf_dict_SizeSet
    have t_kt_NoSet_in_NoForm := T.kt_NoSet_in_NoForm
    have t_kt_NoSet_in_NoCounter := T.kt_NoSet_in_NoCounter
    have t_kt_NoSet_in_NoScheme := T.kt_NoSet_in_NoScheme
    have t_kt_NoSet_in_NoSize := T.kt_NoSet_in_NoSize
    have t_kt_NoSet_in_NoRing := T.kt_NoSet_in_NoRing
    have t_kt_NoSet_in_Outside := T.kt_NoSet_in_Outside
    have t_kt_NoSet_in_NoRun := T.kt_NoSet_in_NoRun
    have t_kt_NoSet_in_NoSet := T.kt_NoSet_in_NoSet
    have t_kt_NoSet_in_TooLong := T.kt_NoSet_in_TooLong
    have t_kt_NoSet_in_VE := T.kt_NoSet_in_VE
    have t_xm_NoSet := T.xm_NoSet
    have t_kt_TooLong_in_NoForm := T.kt_TooLong_in_NoForm
    have t_kt_TooLong_in_NoCounter := T.kt_TooLong_in_NoCounter
    have t_kt_TooLong_in_NoScheme := T.kt_TooLong_in_NoScheme
    have t_kt_TooLong_in_NoSize := T.kt_TooLong_in_NoSize
    have t_kt_TooLong_in_NoRing := T.kt_TooLong_in_NoRing
    have t_kt_TooLong_in_Outside := T.kt_TooLong_in_Outside
    have t_kt_TooLong_in_NoRun := T.kt_TooLong_in_NoRun
    have t_kt_TooLong_in_NoSet := T.kt_TooLong_in_NoSet
    have t_kt_TooLong_in_TooLong := T.kt_TooLong_in_TooLong
    have t_kt_TooLong_in_VE := T.kt_TooLong_in_VE
    have t_xm_TooLong := T.xm_TooLong
    have t_k_SizeSet := T.k_SizeSet
    have k1 := can.k.pos
    rcases hy with ⟨n, rfl, k⟩ | ⟨hy, k⟩
    rcases (by omega : n < 1 ∨ (1 ≤ n ∧ n < t.s) ∨ (1 ≤ n ∧ t.s ≤ n)) with h1 | ⟨h1, h2⟩ | ⟨h1, h2⟩
    · skip
      refine ⟨_, (pss_cons (ps_if (PW.pt (pw_or (pt_not (pt_val (pe_call (ok_is_whole T) (hr.mono (by decide)) (by rfl) T.m_is_whole T.F_is_whole.kp T.b_is_whole .nil pass0 (pa_cons (pv 1) pa_nil)))) (pw_or1 (pt_cmpR op_lt (pv 1) pe_int (nomark _))))) (pss_one (ps_ret pe_bl)) pss_nil)
      (pss_cons ps_never (pss_one ps_never))), ?_⟩
      try dsimp only [L2.cxOf, L2.Cx.nox, L2.Cx.wish]
      try rw [st_SizeSetu__containsu_]
      with_reducible refine Rd.seq (Rd.ifS (Rd.or (Rd.not (Rd.tb (Rd.call (Rd.cons (Rd.var (by walk_at "vr") (Rd.nil ?_))))))))
      refine ⟨_, rfl, .inl ⟨_, rfl, ?_⟩⟩
      with_reducible refine Rd.bl (Rd.iteF (by walk_at "bF") (Rd.test (Rd.op (Rd.var (by walk_at "vr") (Rd.c (Rd.i0 (Rd.bl (Rd.iteT (by walk_at "bT") (Rd.ret (Rd.c ?_))))))))))
      rw [decide_eq_false (show ¬ 1 ≤ n by omega), Bool.false_and] at k
      exact k
    · skip
      refine ⟨_, (pss_cons (ps_if (PW.pt (pw_or (pt_not (pt_val (pe_call (ok_is_whole T) (hr.mono (by decide)) (by rfl) T.m_is_whole T.F_is_whole.kp T.b_is_whole .nil pass0 (pa_cons (pv 1) pa_nil)))) (pw_or1 (pt_cmpR op_lt (pv 1) pe_int (nomark _))))) (pss_one ps_never) pss_nil)
      (pss_cons (ps_if (pt_cmpR op_lt (pv 1) (pe_fld (pv 0) rfl) (nomark _)) (pss_one (ps_ret (pe_ix (Rd.ixLK rfl) (pe_fld (pv 0) rfl) (pv 1) (fun _ _ => rfl)))) pss_nil)
      (pss_one ps_never))), ?_⟩
      try dsimp only [L2.cxOf, L2.Cx.nox, L2.Cx.wish]
      try rw [st_SizeSetu__containsu_]
      with_reducible refine Rd.seq (Rd.ifS (Rd.or (Rd.not (Rd.tb (Rd.call (Rd.cons (Rd.var (by walk_at "vr") (Rd.nil ?_))))))))
      refine ⟨_, rfl, .inl ⟨_, rfl, ?_⟩⟩
      with_reducible refine Rd.bl (Rd.iteF (by walk_at "bF") (Rd.test (Rd.op (Rd.var (by walk_at "vr") (Rd.c (Rd.i0 (Rd.bl (Rd.iteF (by walk_at "bF") (Rd.next (Rd.seq (Rd.ifS ?_)))))))))))
      with_reducible refine Rd.test (Rd.op (Rd.var (by walk_at "vr") (Rd.fld (Rd.var (by walk_at "vr") (⟨_, _, _, _, _, rfl, (by walk_at "hp"), T.k_SizeSet, T.n_SizeSet_start, (by walk_at "lk"), (Rd.i0 (Rd.bl (Rd.iteT (by walk_at "bT") (Rd.ret (Rd.op (Rd.fld ?_))))))⟩)))))
      with_reducible refine Rd.var (by walk_at "vr") (⟨_, _, _, _, _, rfl, (by walk_at "hp"), T.k_SizeSet, T.n_SizeSet_early_marks, (by walk_at "lk"), (Rd.var (by walk_at "vr") ?_)⟩)
      refine Rd.ixL (by walk_at "hpl") (at_early can h1 h2) ?_
      rw [decide_eq_true h1, Bool.true_and] at k
      exact k
    · skip
      refine ⟨_, (pss_cons (ps_if (PW.pt (pw_or (pt_not (pt_val (pe_call (ok_is_whole T) (hr.mono (by decide)) (by rfl) T.m_is_whole T.F_is_whole.kp T.b_is_whole .nil pass0 (pa_cons (pv 1) pa_nil)))) (pw_or1 (pt_cmpR op_lt (pv 1) pe_int (nomark _))))) (pss_one ps_never) pss_nil)
      (pss_cons (ps_if (pt_cmpR op_lt (pv 1) (pe_fld (pv 0) rfl) (nomark _)) (pss_one ps_never) pss_nil)
      (pss_one (ps_ret (pe_ix (Rd.ixLK rfl) (pe_fld (pv 0) rfl) (pe_op op_mod (pv 1) (pe_fld (pv 0) rfl)) (fun _ _ => rfl)))))), ?_⟩
      try dsimp only [L2.cxOf, L2.Cx.nox, L2.Cx.wish]
      try rw [st_SizeSetu__containsu_]
      with_reducible refine Rd.seq (Rd.ifS (Rd.or (Rd.not (Rd.tb (Rd.call (Rd.cons (Rd.var (by walk_at "vr") (Rd.nil ?_))))))))
      refine ⟨_, rfl, .inl ⟨_, rfl, ?_⟩⟩
      with_reducible refine Rd.bl (Rd.iteF (by walk_at "bF") (Rd.test (Rd.op (Rd.var (by walk_at "vr") (Rd.c (Rd.i0 (Rd.bl (Rd.iteF (by walk_at "bF") (Rd.next (Rd.seq (Rd.ifS ?_)))))))))))
      with_reducible refine Rd.test (Rd.op (Rd.var (by walk_at "vr") (Rd.fld (Rd.var (by walk_at "vr") (⟨_, _, _, _, _, rfl, (by walk_at "hp"), T.k_SizeSet, T.n_SizeSet_start, (by walk_at "lk"), (Rd.i0 (Rd.bl (Rd.iteF (by walk_at "bF") (Rd.next (Rd.ret (Rd.op ?_))))))⟩)))))
      with_reducible refine Rd.fld (Rd.var (by walk_at "vr") (⟨_, _, _, _, _, rfl, (by walk_at "hp"), T.k_SizeSet, T.n_SizeSet_rest_marks, (by walk_at "lk"), (Rd.op (Rd.var (by walk_at "vr") (Rd.fld (Rd.var (by walk_at "vr") (⟨_, _, _, _, _, rfl, (by walk_at "hp"), T.k_SizeSet, T.n_SizeSet_period, (by walk_at "lk"), (Rd.iC (by walk_at "sc") ?_)⟩)))))⟩))
      refine Rd.ixL (by walk_at "hpl") (at_rest ok can h1 h2) ?_
      rw [decide_eq_true h1, Bool.true_and] at k
      exact k
    · skip
      refine ⟨_, (pss_cons (ps_if (PW.pt (pw_or (pt_not (pt_val (pe_call (ok_is_whole T) (hr.mono (by decide)) (by rfl) T.m_is_whole T.F_is_whole.kp T.b_is_whole .nil pass0 (pa_cons (pv 1) pa_nil)))) (pw_or1 Rd.ptN))) (pss_one (ps_ret pe_bl)) pss_nil)
      (pss_cons ps_never (pss_one ps_never))), ?_⟩
      try dsimp only [L2.cxOf, L2.Cx.nox, L2.Cx.wish]
      try rw [st_SizeSetu__containsu_]
      with_reducible refine Rd.seq (Rd.ifS (Rd.or (Rd.not (Rd.tb (Rd.call (Rd.cons (Rd.var (by walk_at "vr") (Rd.nil ?_))))))))
      refine ⟨_, rfl, .inr ⟨(by with_reducible assumption), ?_⟩⟩
      with_reducible refine Rd.bl (Rd.iteT (by walk_at "bT") (Rd.iteT rfl (Rd.ret (Rd.c ?_))))
      exact k
/-! common_parts -/
theorem sc_common_parts : FnScope ["one", "other", "period", "start"] ["one", "other"] (defScope s_common_parts) := ⟨rfl, rfl, rfl, by decide +kernel, rfl, by decide +kernel, by decide +kernel⟩
theorem st_common_parts {v0 v1 : V} : L2.start ["one", "other", "period", "start"] [v0, v1] = [some v0, some v1, none, none] := rfl
abbrev sp_common_parts (K : PySem.W.Frag) (A : Adr) : Sp := fun vs H Q E => ∃ (p : Addr) (w t : Rows) (y : V), vs = [.ref p, y] ∧ SetG A H p w t ∧ ((∃ (p' : Addr) (w' t' : Rows), y = .ref p' ∧ SetG A H p' w' t' ∧ ((Lcm.lcmI t.p t'.p ≤ 5000 ∧ ∀ (q : Addr) (H' : Hp), Same H H' → H' q = some (.tup [.int (topV t.s t'.s), .int (Lcm.lcmI t.p t'.p)]) → Q (.ref q) H') ∨ (5000 < Lcm.lcmI t.p t'.p ∧ ∀ H1, Same H H1 → E (.ref A.c_TooLong) none H1))) ∨ (OddS A K H y ∧ ∀ H1, Same H H1 → E (.ref A.c_NoSet) none H1))
theorem ok_common_parts (T : Txt w K mg A) : FnOk P w K mg base (L2.CX P w) 3 A.f_common_parts A.d_common_parts ["one", "other"] (sp_common_parts K A) := by
  refine T.F_common_parts.okX sc_common_parts (fun vs H Q E h => ?_) (fun cdv Ar outer s H vs Q E hr h => ?_)
  · obtain ⟨p, w, t, y, rfl, g, hy⟩ := h
    rfl
  · obtain ⟨p, w, t, y, rfl, g, hy⟩ := h
    have hu := hu_of hr
    have t_i_SizeSet := T.i_SizeSet
    have t_kt_NoneType_SizeSet := T.kt_NoneType_SizeSet
    have t_kt_int_SizeSet := T.kt_int_SizeSet
    have t_kt_bool_SizeSet := T.kt_bool_SizeSet
    have t_kt_str_SizeSet := T.kt_str_SizeSet
    have t_kt_tuple_SizeSet := T.kt_tuple_SizeSet
    have t_kt_list_SizeSet := T.kt_list_SizeSet
    have t_kt_dict_SizeSet := T.kt_dict_SizeSet
    have t_kt_SizeSet_SizeSet := T.kt_SizeSet_SizeSet
    have t_nf_SizeSet_SizeSet := T.nf_SizeSet_SizeSet
    have t_nf_NoneType_SizeSet := T.nf_NoneType_SizeSet
    have t_nf_int_SizeSet := T.nf_int_SizeSet
    have t_nf_bool_SizeSet := T.nf_bool_SizeSet
    have t_nf_str_SizeSet := T.nf_str_SizeSet
    have t_nf_tuple_SizeSet := T.nf_tuple_SizeSet
    have t_nf_list_SizeSet := T.nf_list_SizeSet
    have t_nf_dict_SizeSet := T.nf_dict_SizeSet
    have t_kt_NoSet_in_NoForm := T.kt_NoSet_in_NoForm
    have t_kt_NoSet_in_NoCounter := T.kt_NoSet_in_NoCounter
    have t_kt_NoSet_in_NoScheme := T.kt_NoSet_in_NoScheme
    have t_kt_NoSet_in_NoSize := T.kt_NoSet_in_NoSize
    have t_kt_NoSet_in_NoRing := T.kt_NoSet_in_NoRing
    have t_kt_NoSet_in_Outside := T.kt_NoSet_in_Outside
    have t_kt_NoSet_in_NoRun := T.kt_NoSet_in_NoRun
    have t_kt_NoSet_in_NoSet := T.kt_NoSet_in_NoSet
    have t_kt_NoSet_in_TooLong := T.kt_NoSet_in_TooLong
    have t_kt_NoSet_in_VE := T.kt_NoSet_in_VE
    have t_xm_NoSet := T.xm_NoSet
    have t_kt_TooLong_in_NoForm := T.kt_TooLong_in_NoForm
    have t_kt_TooLong_in_NoCounter := T.kt_TooLong_in_NoCounter
    have t_kt_TooLong_in_NoScheme := T.kt_TooLong_in_NoScheme
    have t_kt_TooLong_in_NoSize := T.kt_TooLong_in_NoSize
    have t_kt_TooLong_in_NoRing := T.kt_TooLong_in_NoRing
    have t_kt_TooLong_in_Outside := T.kt_TooLong_in_Outside
    have t_kt_TooLong_in_NoRun := T.kt_TooLong_in_NoRun
    have t_kt_TooLong_in_NoSet := T.kt_TooLong_in_NoSet
    have t_kt_TooLong_in_TooLong := T.kt_TooLong_in_TooLong
    have t_kt_TooLong_in_VE := T.kt_TooLong_in_VE
    have t_xm_TooLong := T.xm_TooLong
    have t_k_SizeSet := T.k_SizeSet
    obtain ⟨hs1, can1, ok1, ws1, wp1⟩ := id g
    obtain ⟨k11, k21, s11, s21⟩ := g.b
    obtain ⟨dx1, ea1, re1, em1, rm1, hp1, hea1, hre1, hem1, hrm1⟩ := id hs1
    rcases hy with ⟨p', w', t', rfl, g', ⟨lc, k⟩ | ⟨lc, k⟩⟩ | ⟨⟨tn, hT, ty⟩, k⟩
    rcases (by omega : t'.s < t.s ∨ ¬ t'.s < t.s) with q9 | q9
    rotate_left 3
    have kf := odd_kit T hT
    rotate_left 1
    · obtain ⟨hs2, can2, ok2, ws2, wp2⟩ := id g'
      obtain ⟨k12, k22, s12, s22⟩ := g'.b
      obtain ⟨dx2, ea2, re2, em2, rm2, hp2, hea2, hre2, hem2, hrm2⟩ := id hs2
      refine ⟨_, (pss_cons (ps_if (pt_not (pt_val (pe_callB (Rd.isi (K := K) rfl) (by rfl) T.n_isinstance (by decide +kernel) (pa_cons (pv 1) (pa_cons (pe_glob (v := .ref A.c_SizeSet) rfl T.m_SizeSet rfl) pa_nil))))) (pss_one ps_never) pss_nil)
      (pss_cons (ps_set (i := 2) sc_common_parts.nd rfl (Or.inl rfl) (Lcm.pe_callGB Lcm.call_lcm (by rfl) T.m_lcm (pa_cons (pe_prop (pv 0) T.k_SizeSet T.R_SizeSet_period (ok_SizeSet_period T) (hr.mono (by decide)) T.b_SizeSet_period .nil pass0 rfl) (pa_cons (pe_prop (pv 1) T.k_SizeSet T.R_SizeSet_period (ok_SizeSet_period T) (hr.mono (by decide)) T.b_SizeSet_period .nil pass0 rfl) pa_nil))))
      (pss_cons (ps_if (pt_cmpR op_gt (pv 2) (pe_glob (v := .int (5000)) rfl T.m_GREATEST_PERIOD ⟨_, rfl⟩) (nomark _)) (pss_one ps_never) pss_nil)
      (pss_cons (ps_set (i := 3) sc_common_parts.nd rfl (Or.inl rfl) (pe_ifExp (pt_cmpR op_gt (pe_prop (pv 0) T.k_SizeSet T.R_SizeSet_start (ok_SizeSet_start T) (hr.mono (by decide)) T.b_SizeSet_start .nil pass0 rfl) (pe_prop (pv 1) T.k_SizeSet T.R_SizeSet_start (ok_SizeSet_start T) (hr.mono (by decide)) T.b_SizeSet_start .nil pass0 rfl) (nomark _)) (pe_prop (pv 0) T.k_SizeSet T.R_SizeSet_start (ok_SizeSet_start T) (hr.mono (by decide)) T.b_SizeSet_start .nil pass0 rfl) Rd.peN))
      (pss_one (ps_ret (pe_tup (pa_cons (pv 3) (pa_cons (pv 2) pa_nil))))))))), ?_⟩
      try dsimp only [L2.cxOf, L2.Cx.nox, L2.Cx.wish]
      try rw [st_common_parts]
      with_reducible refine Rd.seq (Rd.ifS (Rd.not (Rd.tb (Rd.cB (Rd.cons (Rd.var (by walk_at "vr") (Rd.cons (Rd.c (Rd.nil ?_)))))))))
      refine ⟨_, _, _, _, _, rfl, (by walk_at "clsv"), (by walk_at "tyx"), (by walk_at "kit"), ?_⟩
      with_reducible refine Rd.bl (Rd.iteF (by walk_at "bF") (Rd.next (Rd.seq (Rd.asg (Rd.cB (Rd.cons (Rd.prop (Rd.var (by walk_at "vr") (⟨_, _, _, rfl, (by walk_at "hp"), ?_⟩)))))))))
      refine ⟨_, _, _, rfl, (by walk_at "set"), ?_⟩
      with_reducible refine Rd.cons (Rd.prop (Rd.var (by walk_at "vr") (⟨_, _, _, rfl, (by walk_at "hp"), ?_⟩)))
      refine ⟨_, _, _, rfl, (by walk_at "set"), ?_⟩
      with_reducible refine Rd.nil ?_
      refine ⟨_, _, rfl, (by omega), (by omega), ?_⟩
      with_reducible refine Rd.name ?_
      try dsimp only [Int.reduceToNat, List.set]
      with_reducible refine Rd.seq (Rd.ifS (Rd.test (Rd.op (Rd.var (by walk_at "vr") (Rd.c (Rd.i0 (Rd.bl (Rd.iteF (by walk_at "bF") (Rd.next (Rd.seq (Rd.asg ?_)))))))))))
      with_reducible refine Rd.ifE (Rd.test (Rd.op (Rd.prop (Rd.var (by walk_at "vr") (⟨_, _, _, rfl, (by walk_at "hp"), ?_⟩)))))
      refine ⟨_, _, _, rfl, (by walk_at "set"), ?_⟩
      with_reducible refine Rd.prop (Rd.var (by walk_at "vr") (⟨_, _, _, rfl, (by walk_at "hp"), ?_⟩))
      refine ⟨_, _, _, rfl, (by walk_at "set"), ?_⟩
      with_reducible refine Rd.i0 (Rd.bl (Rd.iteT (by walk_at "bT") (Rd.prop (Rd.var (by walk_at "vr") (⟨_, _, _, rfl, (by walk_at "hp"), ?_⟩)))))
      refine ⟨_, _, _, rfl, (by walk_at "set"), ?_⟩
      with_reducible refine Rd.name ?_
      try dsimp only [Int.reduceToNat, List.set]
      with_reducible refine Rd.ret (Rd.tup (Rd.cons (Rd.var (by walk_at "vr") (Rd.cons (Rd.var (by walk_at "vr") (Rd.nil (Rd.laid (by walk_at "ll") ?_)))))))
      intro p0 np0
      exact k _ _ (by walk_at "frm") (by rw [show topV t.s t'.s = t.s from if_pos q9]; exact L2.upd_same)
    · obtain ⟨hs2, can2, ok2, ws2, wp2⟩ := id g'
      obtain ⟨k12, k22, s12, s22⟩ := g'.b
      obtain ⟨dx2, ea2, re2, em2, rm2, hp2, hea2, hre2, hem2, hrm2⟩ := id hs2
      refine ⟨_, (pss_cons (ps_if (pt_not (pt_val (pe_callB (Rd.isi (K := K) rfl) (by rfl) T.n_isinstance (by decide +kernel) (pa_cons (pv 1) (pa_cons (pe_glob (v := .ref A.c_SizeSet) rfl T.m_SizeSet rfl) pa_nil))))) (pss_one ps_never) pss_nil)
      (pss_cons (ps_set (i := 2) sc_common_parts.nd rfl (Or.inl rfl) (Lcm.pe_callGB Lcm.call_lcm (by rfl) T.m_lcm (pa_cons (pe_prop (pv 0) T.k_SizeSet T.R_SizeSet_period (ok_SizeSet_period T) (hr.mono (by decide)) T.b_SizeSet_period .nil pass0 rfl) (pa_cons (pe_prop (pv 1) T.k_SizeSet T.R_SizeSet_period (ok_SizeSet_period T) (hr.mono (by decide)) T.b_SizeSet_period .nil pass0 rfl) pa_nil))))
      (pss_cons (ps_if (pt_cmpR op_gt (pv 2) (pe_glob (v := .int (5000)) rfl T.m_GREATEST_PERIOD ⟨_, rfl⟩) (nomark _)) (pss_one ps_never) pss_nil)
      (pss_cons (ps_set (i := 3) sc_common_parts.nd rfl (Or.inl rfl) (pe_ifExp (pt_cmpR op_gt (pe_prop (pv 0) T.k_SizeSet T.R_SizeSet_start (ok_SizeSet_start T) (hr.mono (by decide)) T.b_SizeSet_start .nil pass0 rfl) (pe_prop (pv 1) T.k_SizeSet T.R_SizeSet_start (ok_SizeSet_start T) (hr.mono (by decide)) T.b_SizeSet_start .nil pass0 rfl) (nomark _)) Rd.peN (pe_prop (pv 1) T.k_SizeSet T.R_SizeSet_start (ok_SizeSet_start T) (hr.mono (by decide)) T.b_SizeSet_start .nil pass0 rfl)))
      (pss_one (ps_ret (pe_tup (pa_cons (pv 3) (pa_cons (pv 2) pa_nil))))))))), ?_⟩
      try dsimp only [L2.cxOf, L2.Cx.nox, L2.Cx.wish]
      try rw [st_common_parts]
      with_reducible refine Rd.seq (Rd.ifS (Rd.not (Rd.tb (Rd.cB (Rd.cons (Rd.var (by walk_at "vr") (Rd.cons (Rd.c (Rd.nil ?_)))))))))
      refine ⟨_, _, _, _, _, rfl, (by walk_at "clsv"), (by walk_at "tyx"), (by walk_at "kit"), ?_⟩
      with_reducible refine Rd.bl (Rd.iteF (by walk_at "bF") (Rd.next (Rd.seq (Rd.asg (Rd.cB (Rd.cons (Rd.prop (Rd.var (by walk_at "vr") (⟨_, _, _, rfl, (by walk_at "hp"), ?_⟩)))))))))
      refine ⟨_, _, _, rfl, (by walk_at "set"), ?_⟩
      with_reducible refine Rd.cons (Rd.prop (Rd.var (by walk_at "vr") (⟨_, _, _, rfl, (by walk_at "hp"), ?_⟩)))
      refine ⟨_, _, _, rfl, (by walk_at "set"), ?_⟩
      with_reducible refine Rd.nil ?_
      refine ⟨_, _, rfl, (by omega), (by omega), ?_⟩
      with_reducible refine Rd.name ?_
      try dsimp only [Int.reduceToNat, List.set]
      with_reducible refine Rd.seq (Rd.ifS (Rd.test (Rd.op (Rd.var (by walk_at "vr") (Rd.c (Rd.i0 (Rd.bl (Rd.iteF (by walk_at "bF") (Rd.next (Rd.seq (Rd.asg ?_)))))))))))
      with_reducible refine Rd.ifE (Rd.test (Rd.op (Rd.prop (Rd.var (by walk_at "vr") (⟨_, _, _, rfl, (by walk_at "hp"), ?_⟩)))))
      refine ⟨_, _, _, rfl, (by walk_at "set"), ?_⟩
      with_reducible refine Rd.prop (Rd.var (by walk_at "vr") (⟨_, _, _, rfl, (by walk_at "hp"), ?_⟩))
      refine ⟨_, _, _, rfl, (by walk_at "set"), ?_⟩
      with_reducible refine Rd.i0 (Rd.bl (Rd.iteF (by walk_at "bF") (Rd.prop (Rd.var (by walk_at "vr") (⟨_, _, _, rfl, (by walk_at "hp"), ?_⟩)))))
      refine ⟨_, _, _, rfl, (by walk_at "set"), ?_⟩
      with_reducible refine Rd.name ?_
      try dsimp only [Int.reduceToNat, List.set]
      with_reducible refine Rd.ret (Rd.tup (Rd.cons (Rd.var (by walk_at "vr") (Rd.cons (Rd.var (by walk_at "vr") (Rd.nil (Rd.laid (by walk_at "ll") ?_)))))))
      intro p0 np0
      exact k _ _ (by walk_at "frm") (by rw [show topV t.s t'.s = t'.s from if_neg q9]; exact L2.upd_same)
    · obtain ⟨hs2, can2, ok2, ws2, wp2⟩ := id g'
      obtain ⟨k12, k22, s12, s22⟩ := g'.b
      obtain ⟨dx2, ea2, re2, em2, rm2, hp2, hea2, hre2, hem2, hrm2⟩ := id hs2
      refine ⟨_, (pss_cons (ps_if (pt_not (pt_val (pe_callB (Rd.isi (K := K) rfl) (by rfl) T.n_isinstance (by decide +kernel) (pa_cons (pv 1) (pa_cons (pe_glob (v := .ref A.c_SizeSet) rfl T.m_SizeSet rfl) pa_nil))))) (pss_one ps_never) pss_nil)
      (pss_cons (ps_set (i := 2) sc_common_parts.nd rfl (Or.inl rfl) (Lcm.pe_callGB Lcm.call_lcm (by rfl) T.m_lcm (pa_cons (pe_prop (pv 0) T.k_SizeSet T.R_SizeSet_period (ok_SizeSet_period T) (hr.mono (by decide)) T.b_SizeSet_period .nil pass0 rfl) (pa_cons (pe_prop (pv 1) T.k_SizeSet T.R_SizeSet_period (ok_SizeSet_period T) (hr.mono (by decide)) T.b_SizeSet_period .nil pass0 rfl) pa_nil))))
      (pss_cons (ps_if (pt_cmpR op_gt (pv 2) (pe_glob (v := .int (5000)) rfl T.m_GREATEST_PERIOD ⟨_, rfl⟩) (nomark _)) (pss_one (ps_raise rfl (takes_of rfl rfl rfl rfl) (pmk_own PySem.F.excBase_ValueError T.x_TooLong T.m_TooLong T.kp_TooLong (raises_own T.sb_TooLong T.tc_TooLong) rfl))) pss_nil)
      (pss_cons ps_never (pss_one ps_never))))), ?_⟩
      try dsimp only [L2.cxOf, L2.Cx.nox, L2.Cx.wish]
      try rw [st_common_parts]
      with_reducible refine Rd.seq (Rd.ifS (Rd.not (Rd.tb (Rd.cB (Rd.cons (Rd.var (by walk_at "vr") (Rd.cons (Rd.c (Rd.nil ?_)))))))))
      refine ⟨_, _, _, _, _, rfl, (by walk_at "clsv"), (by walk_at "tyx"), (by walk_at "kit"), ?_⟩
      with_reducible refine Rd.bl (Rd.iteF (by walk_at "bF") (Rd.next (Rd.seq (Rd.asg (Rd.cB (Rd.cons (Rd.prop (Rd.var (by walk_at "vr") (⟨_, _, _, rfl, (by walk_at "hp"), ?_⟩)))))))))
      refine ⟨_, _, _, rfl, (by walk_at "set"), ?_⟩
      with_reducible refine Rd.cons (Rd.prop (Rd.var (by walk_at "vr") (⟨_, _, _, rfl, (by walk_at "hp"), ?_⟩)))
      refine ⟨_, _, _, rfl, (by walk_at "set"), ?_⟩
      with_reducible refine Rd.nil ?_
      refine ⟨_, _, rfl, (by omega), (by omega), ?_⟩
      with_reducible refine Rd.name ?_
      try dsimp only [Int.reduceToNat, List.set]
      with_reducible refine Rd.seq (Rd.ifS (Rd.test (Rd.op (Rd.var (by walk_at "vr") (Rd.c (Rd.i0 (Rd.bl (Rd.iteT (by walk_at "bT") ?_))))))))
      exact k _ (by walk_at "frm")
    · skip
      refine ⟨_, (pss_cons (ps_if (pt_not (pt_val (pe_callB (Rd.isi (K := K) rfl) (by rfl) T.n_isinstance (by decide +kernel) (pa_cons (pv 1) (pa_cons (pe_glob (v := .ref A.c_SizeSet) rfl T.m_SizeSet rfl) pa_nil))))) (pss_one (ps_raise rfl (takes_of rfl rfl rfl rfl) (pmk_own PySem.F.excBase_ValueError T.x_NoSet T.m_NoSet T.kp_NoSet (raises_own T.sb_NoSet T.tc_NoSet) rfl))) pss_nil)
      (pss_cons ps_never (pss_cons ps_never (pss_cons ps_never (pss_one ps_never))))), ?_⟩
      try dsimp only [L2.cxOf, L2.Cx.nox, L2.Cx.wish]
      try rw [st_common_parts]
      with_reducible refine Rd.seq (Rd.ifS (Rd.not (Rd.tb (Rd.cB (Rd.cons (Rd.var (by walk_at "vr") (Rd.cons (Rd.c (Rd.nil ?_)))))))))
      refine ⟨_, _, _, _, _, rfl, (by walk_at "clsv"), (by walk_at "tyx"), (by walk_at "kit"), ?_⟩
      with_reducible refine Rd.bl (Rd.iteT (by walk_at "bT") ?_)
      exact k _ (by walk_at "frm")
/-! set_of -/
theorem sc_set_of : FnScope ["numbers", "start", "period", "early", "rests", "n"] ["numbers", "start", "period"] (defScope s_set_of) := ⟨rfl, rfl, rfl, by decide +kernel, rfl, by decide +kernel, by decide +kernel⟩
theorem st_set_of {v0 v1 v2 : V} : L2.start ["numbers", "start", "period", "early", "rests", "n"] [v0, v1, v2] = [some v0, some v1, some v2, none, none, none] := rfl
abbrev sp_set_of (K : PySem.W.Frag) (A : Adr) : Sp := fun vs H Q _ => ∃ (l : Addr) (ns : List Int) (st pd : Int), vs = [.ref l, .int st, .int pd] ∧ H l = some (.lst (ns.map V.int)) ∧ Asc (st + pd - 1) 1 ns ∧ 1 ≤ st ∧ st ≤ 20000 ∧ 1 ≤ pd ∧ pd ≤ 5000 ∧ ∀ (r : Addr) (w t : Rows) (H' : Hp), Same H H' → H r = none → Canon w t → SetNew A H H' r w t → w.Ok → w.s = st → w.p = pd → w.E = ns.filter (fun x => decide (x < st)) → w.R.Perm (resOf st pd ns) → Q (.ref r) H'
theorem ok_set_of (T : Txt w K mg A) : FnOk P w K mg base CX0 7 A.f_set_of A.d_set_of ["numbers", "start", "period"] (sp_set_of K A) := by
  refine T.F_set_of.ok sc_set_of (fun vs H Q E h => ?_) (fun cdv Ar outer s H vs Q E hr h => ?_)
  · obtain ⟨l, ns, st, pd, rfl, hl, hA, s1, s2, p1, p2, k⟩ := h
    rfl
  · obtain ⟨l, ns, st, pd, rfl, hl, hA, s1, s2, p1, p2, k⟩ := h
    have hu := hu_of hr
    have t_i_SizeSet := T.i_SizeSet
    have t_kt_NoneType_SizeSet := T.kt_NoneType_SizeSet
    have t_kt_int_SizeSet := T.kt_int_SizeSet
    have t_kt_bool_SizeSet := T.kt_bool_SizeSet
    have t_kt_str_SizeSet := T.kt_str_SizeSet
    have t_kt_tuple_SizeSet := T.kt_tuple_SizeSet
    have t_kt_list_SizeSet := T.kt_list_SizeSet
    have t_kt_dict_SizeSet := T.kt_dict_SizeSet
    have t_kt_SizeSet_SizeSet := T.kt_SizeSet_SizeSet
    have t_nf_SizeSet_SizeSet := T.nf_SizeSet_SizeSet
    have t_nf_NoneType_SizeSet := T.nf_NoneType_SizeSet
    have t_nf_int_SizeSet := T.nf_int_SizeSet
    have t_nf_bool_SizeSet := T.nf_bool_SizeSet
    have t_nf_str_SizeSet := T.nf_str_SizeSet
    have t_nf_tuple_SizeSet := T.nf_tuple_SizeSet
    have t_nf_list_SizeSet := T.nf_list_SizeSet
    have t_nf_dict_SizeSet := T.nf_dict_SizeSet
    have t_kt_NoSet_in_NoForm := T.kt_NoSet_in_NoForm
    have t_kt_NoSet_in_NoCounter := T.kt_NoSet_in_NoCounter
    have t_kt_NoSet_in_NoScheme := T.kt_NoSet_in_NoScheme
    have t_kt_NoSet_in_NoSize := T.kt_NoSet_in_NoSize
    have t_kt_NoSet_in_NoRing := T.kt_NoSet_in_NoRing
    have t_kt_NoSet_in_Outside := T.kt_NoSet_in_Outside
    have t_kt_NoSet_in_NoRun := T.kt_NoSet_in_NoRun
    have t_kt_NoSet_in_NoSet := T.kt_NoSet_in_NoSet
    have t_kt_NoSet_in_TooLong := T.kt_NoSet_in_TooLong
    have t_kt_NoSet_in_VE := T.kt_NoSet_in_VE
    have t_xm_NoSet := T.xm_NoSet
    have t_kt_TooLong_in_NoForm := T.kt_TooLong_in_NoForm
    have t_kt_TooLong_in_NoCounter := T.kt_TooLong_in_NoCounter
    have t_kt_TooLong_in_NoScheme := T.kt_TooLong_in_NoScheme
    have t_kt_TooLong_in_NoSize := T.kt_TooLong_in_NoSize
    have t_kt_TooLong_in_NoRing := T.kt_TooLong_in_NoRing
    have t_kt_TooLong_in_Outside := T.kt_TooLong_in_Outside
    have t_kt_TooLong_in_NoRun := T.kt_TooLong_in_NoRun
    have t_kt_TooLong_in_NoSet := T.kt_TooLong_in_NoSet
    have t_kt_TooLong_in_TooLong := T.kt_TooLong_in_TooLong
    have t_kt_TooLong_in_VE := T.kt_TooLong_in_VE
    have t_xm_TooLong := T.xm_TooLong
    have t_k_SizeSet := T.k_SizeSet
    have ln9 := asc_big hA (by omega)
    refine ⟨_, (pss_cons (ps_setLc (i := 3) (own := [("n", 5)]) (g := gName 5) rfl sc_set_of.nd rfl rfl (sw_true rfl rfl rfl (by decide +kernel)) (pi_list (pv 0)) (blkOk_by (own := [("n", 5)]) (N := ["numbers", "start", "period", "early", "rests", "n"]) (sc := defScope s_set_of) (by decide +kernel)) (fun _ _ _ _ _ => (pg_name (i := 5) sc_set_of.nd rfl (Or.inl rfl))) (fun _ _ _ _ _ => pts_one (pt_cmpR op_lt (pv 5) (pv 1) (nomark _))) (fun _ _ _ _ _ => (pv 5)))
      (pss_cons (ps_set (i := 4) sc_set_of.nd rfl (Or.inl rfl) (pe_callB cr_sortedI (by rfl) T.n_sorted (by decide +kernel) (pa_cons (pe_lc (own := [("n", 5)]) (g := gName 5) rfl sc_set_of.nd (pi_list (pv 0)) (blkOk_by (own := [("n", 5)]) (N := ["numbers", "start", "period", "early", "rests", "n"]) (sc := defScope s_set_of) (by decide +kernel)) (fun _ _ _ _ _ => (pg_name (i := 5) sc_set_of.nd rfl (Or.inl rfl))) (fun _ _ _ _ _ => pts_one (pt_cmpR op_ge (pv 5) (pv 1) (nomark _))) (fun _ _ _ _ _ => (pe_callTy call_int1 (by rfl) T.n_int (by decide +kernel) (pa_cons (pe_op op_mod (pv 5) (pv 2)) pa_nil)))) pa_nil)))
      (pss_one (ps_ret (pe_make T.K_SizeSet (ok_SizeSetu__initu_ T) (hr.mono (by decide)) (by rfl) T.m_SizeSet T.b_SizeSetu__initu_ .nil Sta.passF (pa_cons (pv 3) (pa_cons (pv 1) (pa_cons (pv 2) (pa_cons (pv 4) pa_nil))))))))), ?_⟩
    try dsimp only [L2.cxOf, L2.Cx.nox, L2.Cx.wish]
    try rw [st_set_of]
    with_reducible refine Rd.seq (Rd.asg (Rd.lc (Rd.il (Rd.var (by walk_at "vr") ?_))))
    refine ⟨_, rfl, ⟨_, (by walk_at "hpl")⟩, ?_⟩
    intro D0 nD0
    refine' lc_list (fun i H' => Same H H' ∧ H' D0 = some (.lst (((ns.take i).filter (fun x => decide (x < st))).map V.int))) (⟨by walk_at "frm", L2.upd_same⟩) (fun i H' _ p => .of (p.1 _ _ hl)) (fun i x H' hx p => ?lct0_u14) (fun H' p => ?lcd0_u14)
    case lct0_u14 =>
      obtain ⟨S9, hD⟩ := p
      rw [List.getElem?_map] at hx
      obtain ⟨n, hn, rfl⟩ := Option.map_eq_some_iff.mp hx
      have hb9 := hA.mem n (List.mem_of_getElem? hn)
      have al9 : (((ns.take i).filter (fun x => decide (x < st))).map V.int).length ≤ 29000 := by
        rw [List.length_map]
        have q2 := List.length_take_le' i ns
        have q1 := List.length_filter_le (fun x => decide (x < st)) (ns.take i)
        omega
      with_reducible refine Rd.name ?_
      refine ⟨rfl, ?_⟩
      with_reducible refine Rd.test (Rd.op (Rd.var (by walk_at "vr") (Rd.var (by walk_at "vr") (Rd.i0 (Rd.bl ?_)))))
      refine Rd.ite (fun h0 => ?_) (fun h0 => ?_)
      · try simp only [decide_eq_true_eq, Bool.not_eq_true', decide_eq_false_iff_not, Bool.not_eq_true, Bool.not_eq_eq_eq_not, Bool.not_true, Bool.not_false] at h0
        with_reducible refine Rd.var (by walk_at "vr") ?_
        refine ⟨_, (by walk_at "hp"), (by walk_at "sz"), ?_⟩
        refine ⟨by walk_at "frm", ?_⟩
        rw [filt_yes hn (by omega)]
        exact L2.upd_same
      · try simp only [decide_eq_true_eq, Bool.not_eq_true', decide_eq_false_iff_not, Bool.not_eq_true, Bool.not_eq_eq_eq_not, Bool.not_true, Bool.not_false, Int.not_lt, Int.not_le, Decidable.not_not] at h0
        exact ⟨S9, by rw [← filt_no hn (by omega)]; exact hD⟩
    obtain ⟨S5, hD5⟩ := p
    rw [List.length_map, List.take_length] at hD5
    with_reducible refine Rd.name ?_
    try dsimp only [Int.reduceToNat, List.set]
    with_reducible refine Rd.seq (Rd.asg (Rd.cB (Rd.cons (Rd.lc (Rd.il (Rd.var (by walk_at "vr") ?_))))))
    refine ⟨_, rfl, ⟨_, (by walk_at "hpl")⟩, ?_⟩
    intro D1 nD1
    refine' lc_list (fun i H' => Same H H' ∧ H' D0 = some (.lst ((ns.filter (fun x => decide (x < st))).map V.int)) ∧ H' D1 = some (.lst ((resOf st pd (ns.take i)).map V.int))) (⟨by walk_at "frm", (by walk_at "hp"), L2.upd_same⟩) (fun i H' _ p => .of (p.1 _ _ hl)) (fun i x H' hx p => ?lct1_u15) (fun H' p => ?lcd1_u15)
    case lct1_u15 =>
      obtain ⟨S9, hE9, hD⟩ := p
      rw [List.getElem?_map] at hx
      obtain ⟨n, hn, rfl⟩ := Option.map_eq_some_iff.mp hx
      have hb9 := hA.mem n (List.mem_of_getElem? hn)
      have al9 : ((resOf st pd (ns.take i)).map V.int).length ≤ 29000 := by
        rw [List.length_map]
        have q2 := List.length_take_le' i ns
        have q1 := res_len st pd (ns.take i)
        omega
      with_reducible refine Rd.name ?_
      refine ⟨rfl, ?_⟩
      with_reducible refine Rd.test (Rd.op (Rd.var (by walk_at "vr") (Rd.var (by walk_at "vr") (Rd.i0 (Rd.bl ?_)))))
      refine Rd.ite (fun h1 => ?_) (fun h1 => ?_)
      · try simp only [decide_eq_true_eq, Bool.not_eq_true', decide_eq_false_iff_not, Bool.not_eq_true, Bool.not_eq_eq_eq_not, Bool.not_true, Bool.not_false] at h1
        with_reducible refine Rd.cB (Rd.cons (Rd.op (Rd.var (by walk_at "vr") (Rd.var (by walk_at "vr") (Rd.iC (by walk_at "sc") (Rd.nil ((.inl ⟨_, rfl, ?_⟩))))))))
        refine ⟨_, (by walk_at "hp"), (by walk_at "sz"), ?_⟩
        refine ⟨by walk_at "frm", (by walk_at "hp"), ?_⟩
        rw [res_yes hn (by omega)]
        exact L2.upd_same
      · try simp only [decide_eq_true_eq, Bool.not_eq_true', decide_eq_false_iff_not, Bool.not_eq_true, Bool.not_eq_eq_eq_not, Bool.not_true, Bool.not_false, Int.not_lt, Int.not_le, Decidable.not_not] at h1
        exact ⟨S9, hE9, by rw [← res_no hn (by omega)]; exact hD⟩
    obtain ⟨S6, hE6, hD6⟩ := p
    rw [List.length_map, List.take_length] at hD6
    with_reducible refine Rd.nil ?_
    refine ⟨_, _, rfl, (by walk_at "hpl"), fun so1 so1p so1m so1o so1n => ?_⟩
    with_reducible refine Rd.name ?_
    try dsimp only [Int.reduceToNat, List.set]
    have aE := hA.filter (m := st)
    have aR := res_ok p1 s1 hA so1m so1o
    have ok9 : Rows.Ok ⟨ns.filter (fun x => decide (x < st)), st, pd, so1⟩ := ⟨s1, p1, aE, aR⟩
    with_reducible refine Rd.ret (Rd.make (Rd.cons (Rd.var (by walk_at "vr") (Rd.cons (Rd.var (by walk_at "vr") (Rd.cons (Rd.var (by walk_at "vr") (Rd.cons (Rd.var (by walk_at "vr") (Rd.nil ?_))))))))))
    intro x1 dx1 nx1 ndx1 ne1
    refine ⟨_, _, _, _, _, _, rfl, L2.upd_same, .inl ⟨_, _, ⟨ns.filter (fun x => decide (x < st)), st, pd, so1⟩, rfl, rfl, rfl, rfl, (by walk_at "hp"), (by walk_at "hp"), (by assumption), (by omega), (by omega), fun t1 H1 F1 ca1 sn1 => ?_⟩⟩
    refine ⟨rfl, ?_⟩
    exact k _ ⟨ns.filter (fun x => decide (x < st)), st, pd, so1⟩ _ _ (by walk_at "frm") (by walk_at "nn") ca1 ⟨sn1.1, fun a o ha na => sn1.2 a o (by walk_at "hp") na⟩ ok9 rfl rfl rfl so1m
/-! SizeSet.__and__ -/
theorem sc_SizeSetu__andu_ : FnScope ["self", "other", "start", "period", "n"] ["self", "other"] (defScope s_SizeSetu__andu_) := ⟨rfl, rfl, rfl, by decide +kernel, rfl, by decide +kernel, by decide +kernel⟩
theorem st_SizeSetu__andu_ {v0 v1 : V} : L2.start ["self", "other", "start", "period", "n"] [v0, v1] = [some v0, some v1, none, none, none] := rfl
abbrev sp_SizeSetu__andu_ (K : PySem.W.Frag) (A : Adr) : Sp := fun vs H Q E => ∃ (p : Addr) (w t : Rows) (y : V), vs = [.ref p, y] ∧ SetG A H p w t ∧ ((∃ (p' : Addr) (w' t' : Rows), y = .ref p' ∧ SetG A H p' w' t' ∧ ((Lcm.lcmI t.p t'.p ≤ 5000 ∧ ∀ (r : Addr) (x z : Rows) (H' : Hp), Same H H' → H r = none → SetG A H' r x z → SetNew A H H' r x z → x.s = topV t.s t'.s → x.p = Lcm.lcmI t.p t'.p → (∀ m, m ∈ x.E ↔ (1 ≤ m ∧ m < x.s ∧ andF w w' m = true)) → x.R.Perm (resOf x.s x.p (M31.up (andF w w') (x.s + x.p - 1).toNat 1)) → Q (.ref r) H') ∨ (5000 < Lcm.lcmI t.p t'.p ∧ ∀ H1, Same H H1 → E (.ref A.c_TooLong) none H1))) ∨ (OddS A K H y ∧ ∀ H1, Same H H1 → E (.ref A.c_NoSet) none H1))
theorem ok_SizeSetu__andu_ (T : Txt w K mg A) : FnOk P w K mg base (L2.CX P w) 8 A.f_SizeSetu__andu_ A.d_SizeSetu__andu_ ["self", "other"] (sp_SizeSetu__andu_ K A) := by
  refine T.F_SizeSetu__andu_.okX sc_SizeSetu__andu_ (fun vs H Q E h => ?_) (fun cdv Ar outer s H vs Q E hr h => ?_)
  · obtain ⟨p, w, t, y, rfl, g, hy⟩ := h
    rfl
  · obtain ⟨p, w, t, y, rfl, g, hy⟩ := h
    have hu := hu_of hr
    have t_i_SizeSet := T.i_SizeSet
    have t_kt_NoneType_SizeSet := T.kt_NoneType_SizeSet
    have t_kt_int_SizeSet := T.kt_int_SizeSet
    have t_kt_bool_SizeSet := T.kt_bool_SizeSet
    have t_kt_str_SizeSet := T.kt_str_SizeSet
    have t_kt_tuple_SizeSet := T.kt_tuple_SizeSet
    have t_kt_list_SizeSet := T.kt_list_SizeSet
    have t_kt_dict_SizeSet := T.kt_dict_SizeSet
    have t_kt_SizeSet_SizeSet := T.kt_SizeSet_SizeSet
    have t_nf_SizeSet_SizeSet := T.nf_SizeSet_SizeSet
    have t_nf_NoneType_SizeSet := T.nf_NoneType_SizeSet
    have t_nf_int_SizeSet := T.nf_int_SizeSet
    have t_nf_bool_SizeSet := T.nf_bool_SizeSet
    have t_nf_str_SizeSet := T.nf_str_SizeSet
    have t_nf_tuple_SizeSet := T.nf_tuple_SizeSet
    have t_nf_list_SizeSet := T.nf_list_SizeSet
    have t_nf_dict_SizeSet := T.nf_dict_SizeSet
    have t_kt_NoSet_in_NoForm := T.kt_NoSet_in_NoForm
    have t_kt_NoSet_in_NoCounter := T.kt_NoSet_in_NoCounter
    have t_kt_NoSet_in_NoScheme := T.kt_NoSet_in_NoScheme
    have t_kt_NoSet_in_NoSize := T.kt_NoSet_in_NoSize
    have t_kt_NoSet_in_NoRing := T.kt_NoSet_in_NoRing
    have t_kt_NoSet_in_Outside := T.kt_NoSet_in_Outside
    have t_kt_NoSet_in_NoRun := T.kt_NoSet_in_NoRun
    have t_kt_NoSet_in_NoSet := T.kt_NoSet_in_NoSet
    have t_kt_NoSet_in_TooLong := T.kt_NoSet_in_TooLong
    have t_kt_NoSet_in_VE := T.kt_NoSet_in_VE
    have t_xm_NoSet := T.xm_NoSet
    have t_kt_TooLong_in_NoForm := T.kt_TooLong_in_NoForm
    have t_kt_TooLong_in_NoCounter := T.kt_TooLong_in_NoCounter
    have t_kt_TooLong_in_NoScheme := T.kt_TooLong_in_NoScheme
    have t_kt_TooLong_in_NoSize := T.kt_TooLong_in_NoSize
    have t_kt_TooLong_in_NoRing := T.kt_TooLong_in_NoRing
    have t_kt_TooLong_in_Outside := T.kt_TooLong_in_Outside
    have t_kt_TooLong_in_NoRun := T.kt_TooLong_in_NoRun
    have t_kt_TooLong_in_NoSet := T.kt_TooLong_in_NoSet
    have t_kt_TooLong_in_TooLong := T.kt_TooLong_in_TooLong
    have t_kt_TooLong_in_VE := T.kt_TooLong_in_VE
    have t_xm_TooLong := T.xm_TooLong
    have t_k_SizeSet := T.k_SizeSet
    obtain ⟨hs1, can1, ok1, ws1, wp1⟩ := id g
    obtain ⟨k11, k21, s11, s21⟩ := g.b
    obtain ⟨dx1, ea1, re1, em1, rm1, hp1, hea1, hre1, hem1, hrm1⟩ := id hs1
    rcases hy with ⟨p', w', t', rfl, g', ⟨lc, k⟩ | ⟨lc, k⟩⟩ | ⟨⟨tn, hT, ty⟩, k⟩
    rotate_left 2
    have kf := odd_kit T hT
    rotate_right 2
    · obtain ⟨hs2, can2, ok2, ws2, wp2⟩ := id g'
      obtain ⟨k12, k22, s12, s22⟩ := g'.b
      obtain ⟨dx2, ea2, re2, em2, rm2, hp2, hea2, hre2, hem2, hrm2⟩ := id hs2
      have lp := Lcm.lcm_pos k11 k12
      have tp : 1 ≤ topV t.s t'.s ∧ topV t.s t'.s ≤ 20000 := by unfold topV; split <;> omega
      refine ⟨_, (pss_cons (ps_asg (pe_call (ok_common_parts T) (hr.mono (by decide)) (by rfl) T.m_common_parts T.F_common_parts.kp T.b_common_parts .nil (passes_call (takes_of rfl rfl rfl rfl) fun _ _ _ _ h => h) (pa_cons (pv 0) (pa_cons (pv 1) pa_nil))) (pg_tup (by rfl) (pgs_cons (pg_name (i := 2) sc_SizeSetu__andu_.nd rfl (Or.inl rfl)) (pgs_cons (pg_name (i := 3) sc_SizeSetu__andu_.nd rfl (Or.inl rfl)) pgs_nil))))
      (pss_one (ps_ret (pe_call (ok_set_of T) (hr.mono (by decide)) (by rfl) T.m_set_of T.F_set_of.kp T.b_set_of .nil pass0 (pa_cons (pe_lc (own := [("n", 4)]) (g := gName 4) rfl sc_SizeSetu__andu_.nd (pi_range2 (by rfl) T.n_range (pa_cons pe_int (pa_cons (pe_op op_add (pv 2) (pv 3)) pa_nil))) (blkOk_by (own := [("n", 4)]) (N := ["self", "other", "start", "period", "n"]) (sc := defScope s_SizeSetu__andu_) (by decide +kernel)) (fun _ _ _ _ _ => (pg_name (i := 4) sc_SizeSetu__andu_.nd rfl (Or.inl rfl))) (fun _ _ _ _ _ => pts_one (PW.pt (pw_and (pt_cmpR (Own.isin (ok_SizeSetu__containsu_ T) (hr.mono (by decide)) T.O_SizeSetu__containsu__1 T.b_SizeSetu__containsu_ pass0) (pv 4) (pv 0) (by with_unfolding_all rfl)) (pw_and1 (pt_cmpR (Own.isin (ok_SizeSetu__containsu_ T) (hr.mono (by decide)) T.O_SizeSetu__containsu__1 T.b_SizeSetu__containsu_ pass0) (pv 4) (pv 1) (by with_unfolding_all rfl)))))) (fun _ _ _ _ _ => (pv 4))) (pa_cons (pv 2) (pa_cons (pv 3) pa_nil))))))), ?_⟩
      try dsimp only [L2.cxOf, L2.Cx.nox, L2.Cx.wish]
      try rw [st_SizeSetu__andu_]
      with_reducible refine Rd.seq (Rd.asg (Rd.call (Rd.cons (Rd.var (by walk_at "vr") (Rd.cons (Rd.var (by walk_at "vr") (Rd.nil ?_)))))))
      refine ⟨_, _, _, _, rfl, (by walk_at "sg"), .inl ⟨_, _, _, rfl, (by walk_at "sg"), .inl ⟨lc, fun q1 H1 S1 hq1 => ?_⟩⟩⟩
      refine Rd.gtup (by walk_at "hpt") rfl ?_
      with_reducible refine Rd.gcons (Rd.name (Rd.gcons (Rd.name (Rd.gnil (Rd.ret (Rd.call (Rd.cons (Rd.lc (Rd.rng2 (Rd.cons (Rd.c ?_)))))))))))
      with_reducible refine Rd.cons (Rd.op (Rd.var (by walk_at "vr") (Rd.var (by walk_at "vr") (Rd.i0 (Rd.nil (⟨_, _, rfl, ⟨(by walk_at "sc"), (by walk_at "sc"), (by walk_at "sc"), (by walk_at "sc")⟩, ?_⟩))))))
      intro D0 nD0
      refine' lc_range (fun i H' => Same H H' ∧ H' D0 = some (.lst ((M31.up (andF w w') i 1).map V.int))) (⟨by walk_at "frm", L2.upd_same⟩) (fun i H' hi p => ?lct0_u17) (fun H' p => ?lcd0_u17)
      case lct0_u17 =>
        obtain ⟨S9, hD⟩ := p
        have al9 : ((M31.up (andF w w') i 1).map V.int).length ≤ 88900 := by rw [List.length_map]; have := up_len (f := andF w w') i 1; omega
        with_reducible refine Rd.name ?_
        refine ⟨rfl, ?_⟩
        with_reducible refine Rd.and (Rd.test (Rd.op (Rd.var (by walk_at "vr") (Rd.var (by walk_at "vr") ?_))))
        refine ⟨_, _, _, rfl, (by walk_at "hp"), ?_⟩
        refine ⟨_, _, _, _, rfl, (by walk_at "set"), can1, ok1, .inl ⟨_, rfl, ⟨_, rfl, ?_⟩⟩⟩
        rw [decide_eq_true (show (1 : Int) ≤ 1 + (i : Int) by omega), Bool.true_and]
        with_reducible refine Rd.bl ?_
        refine Rd.ite (fun h0 => ?_) (fun h0 => ?_)
        · try simp only [decide_eq_true_eq, Bool.not_eq_true', decide_eq_false_iff_not, Bool.not_eq_true, Bool.not_eq_eq_eq_not, Bool.not_true, Bool.not_false] at h0
          with_reducible refine Rd.test (Rd.op (Rd.var (by walk_at "vr") (Rd.var (by walk_at "vr") ?_)))
          refine ⟨_, _, _, rfl, (by walk_at "hp"), ?_⟩
          refine ⟨_, _, _, _, rfl, (by walk_at "set"), can2, ok2, .inl ⟨_, rfl, ⟨_, rfl, ?_⟩⟩⟩
          rw [decide_eq_true (show (1 : Int) ≤ 1 + (i : Int) by omega), Bool.true_and]
          with_reducible refine Rd.bl ?_
          refine Rd.ite (fun h1 => ?_) (fun h1 => ?_)
          · try simp only [decide_eq_true_eq, Bool.not_eq_true', decide_eq_false_iff_not, Bool.not_eq_true, Bool.not_eq_eq_eq_not, Bool.not_true, Bool.not_false] at h1
            with_reducible refine Rd.var (by walk_at "vr") ?_
            refine ⟨_, (by walk_at "hp"), (by walk_at "sz"), ?_⟩
            refine ⟨by walk_at "frm", ?_⟩
            rw [up_snoc, if_pos (by unfold andF; simp_all), List.map_append]
            exact L2.upd_same
          · try simp only [decide_eq_true_eq, Bool.not_eq_true', decide_eq_false_iff_not, Bool.not_eq_true, Bool.not_eq_eq_eq_not, Bool.not_true, Bool.not_false, Int.not_lt, Int.not_le, Decidable.not_not] at h1
            exact ⟨S9, by rw [up_snoc, if_neg (by unfold andF; simp_all), List.append_nil]; exact hD⟩
        · try simp only [decide_eq_true_eq, Bool.not_eq_true', decide_eq_false_iff_not, Bool.not_eq_true, Bool.not_eq_eq_eq_not, Bool.not_true, Bool.not_false, Int.not_lt, Int.not_le, Decidable.not_not] at h0
          with_reducible refine Rd.iteF rfl ?_
          exact ⟨S9, by rw [up_snoc, if_neg (by unfold andF; simp_all), List.append_nil]; exact hD⟩
      obtain ⟨S9, hD9⟩ := p
      with_reducible refine Rd.cons (Rd.var (by walk_at "vr") (Rd.cons (Rd.var (by walk_at "vr") (Rd.nil ?_))))
      have hA9 : Asc (topV t.s t'.s + Lcm.lcmI t.p t'.p - 1) 1 (M31.up (andF w w') (topV t.s t'.s + Lcm.lcmI t.p t'.p - 1).toNat 1) := up_asc' (by omega)
      refine ⟨_, _, _, _, rfl, (by walk_at "hp"), hA9, (by omega), (by omega), (by omega), (by omega), fun r4 x4 z4 H4 S4 nr4 ca4 sn4 ok4 es4 ep4 eE4 eR4 => ?_⟩
      rw [← es4, ← ep4] at eE4 eR4
      exact k _ _ _ _ (by walk_at "frm") (by walk_at "nn") ⟨sn4.1, ca4, ok4, (by omega), (by omega)⟩ ⟨sn4.1, fun a o ha na => sn4.2 a o (by walk_at "hp") na⟩ es4 ep4 (fun m => by rw [eE4, List.mem_filter, M31.up_mem, decide_eq_true_eq]; exact ⟨fun ⟨⟨a, b, c⟩, d⟩ => ⟨a, d, c⟩, fun ⟨a, d, c⟩ => ⟨⟨a, by omega, c⟩, d⟩⟩) eR4
    · obtain ⟨hs2, can2, ok2, ws2, wp2⟩ := id g'
      obtain ⟨k12, k22, s12, s22⟩ := g'.b
      obtain ⟨dx2, ea2, re2, em2, rm2, hp2, hea2, hre2, hem2, hrm2⟩ := id hs2
      refine ⟨_, (pss_cons (ps_asg (pe_call (ok_common_parts T) (hr.mono (by decide)) (by rfl) T.m_common_parts T.F_common_parts.kp T.b_common_parts .nil (passes_call (takes_of rfl rfl rfl rfl) fun _ _ _ _ h => h) (pa_cons (pv 0) (pa_cons (pv 1) pa_nil))) (pg_tup (by rfl) (pgs_cons (pg_name (i := 2) sc_SizeSetu__andu_.nd rfl (Or.inl rfl)) (pgs_cons (pg_name (i := 3) sc_SizeSetu__andu_.nd rfl (Or.inl rfl)) pgs_nil))))
      (pss_one ps_never)), ?_⟩
      try dsimp only [L2.cxOf, L2.Cx.nox, L2.Cx.wish]
      try rw [st_SizeSetu__andu_]
      with_reducible refine Rd.seq (Rd.asg (Rd.call (Rd.cons (Rd.var (by walk_at "vr") (Rd.cons (Rd.var (by walk_at "vr") (Rd.nil ?_)))))))
      refine ⟨_, _, _, _, rfl, (by walk_at "sg"), .inl ⟨_, _, _, rfl, (by walk_at "sg"), .inr ⟨lc, fun H1 S1 => k _ (by walk_at "frm")⟩⟩⟩
    · skip
      refine ⟨_, (pss_cons (ps_asg (pe_call (ok_common_parts T) (hr.mono (by decide)) (by rfl) T.m_common_parts T.F_common_parts.kp T.b_common_parts .nil (passes_call (takes_of rfl rfl rfl rfl) fun _ _ _ _ h => h) (pa_cons (pv 0) (pa_cons (pv 1) pa_nil))) (pg_tup (by rfl) (pgs_cons (pg_name (i := 2) sc_SizeSetu__andu_.nd rfl (Or.inl rfl)) (pgs_cons (pg_name (i := 3) sc_SizeSetu__andu_.nd rfl (Or.inl rfl)) pgs_nil))))
      (pss_one ps_never)), ?_⟩
      try dsimp only [L2.cxOf, L2.Cx.nox, L2.Cx.wish]
      try rw [st_SizeSetu__andu_]
      with_reducible refine Rd.seq (Rd.asg (Rd.call (Rd.cons (Rd.var (by walk_at "vr") (Rd.cons (Rd.var (by walk_at "vr") (Rd.nil ?_)))))))
      refine ⟨_, _, _, _, rfl, (by walk_at "sg"), .inr ⟨⟨_, (by with_reducible assumption), (by walk_at "tyx")⟩, fun H1 S1 => k _ (by walk_at "frm")⟩⟩
/-! SizeSet.__or__ -/
theorem sc_SizeSetu__oru_ : FnScope ["self", "other", "start", "period", "n"] ["self", "other"] (defScope s_SizeSetu__oru_) := ⟨rfl, rfl, rfl, by decide +kernel, rfl, by decide +kernel, by decide +kernel⟩
theorem st_SizeSetu__oru_ {v0 v1 : V} : L2.start ["self", "other", "start", "period", "n"] [v0, v1] = [some v0, some v1, none, none, none] := rfl
abbrev sp_SizeSetu__oru_ (K : PySem.W.Frag) (A : Adr) : Sp := fun vs H Q E => ∃ (p : Addr) (w t : Rows) (y : V), vs = [.ref p, y] ∧ SetG A H p w t ∧ ((∃ (p' : Addr) (w' t' : Rows), y = .ref p' ∧ SetG A H p' w' t' ∧ ((Lcm.lcmI t.p t'.p ≤ 5000 ∧ ∀ (r : Addr) (x z : Rows) (H' : Hp), Same H H' → H r = none → SetG A H' r x z → SetNew A H H' r x z → x.s = topV t.s t'.s → x.p = Lcm.lcmI t.p t'.p → (∀ m, m ∈ x.E ↔ (1 ≤ m ∧ m < x.s ∧ orF w w' m = true)) → x.R.Perm (resOf x.s x.p (M31.up (orF w w') (x.s + x.p - 1).toNat 1)) → Q (.ref r) H') ∨ (5000 < Lcm.lcmI t.p t'.p ∧ ∀ H1, Same H H1 → E (.ref A.c_TooLong) none H1))) ∨ (OddS A K H y ∧ ∀ H1, Same H H1 → E (.ref A.c_NoSet) none H1))
theorem ok_SizeSetu__oru_ (T : Txt w K mg A) : FnOk P w K mg base (L2.CX P w) 8 A.f_SizeSetu__oru_ A.d_SizeSetu__oru_ ["self", "other"] (sp_SizeSetu__oru_ K A) := by
  refine T.F_SizeSetu__oru_.okX sc_SizeSetu__oru_ (fun vs H Q E h => ?_) (fun cdv Ar outer s H vs Q E hr h => ?_)
  · obtain ⟨p, w, t, y, rfl, g, hy⟩ := h
    rfl
  · obtain ⟨p, w, t, y, rfl, g, hy⟩ := h
    have hu := hu_of hr
    have t_i_SizeSet := T.i_SizeSet
    have t_kt_NoneType_SizeSet := T.kt_NoneType_SizeSet
    have t_kt_int_SizeSet := T.kt_int_SizeSet
    have t_kt_bool_SizeSet := T.kt_bool_SizeSet
    have t_kt_str_SizeSet := T.kt_str_SizeSet
    have t_kt_tuple_SizeSet := T.kt_tuple_SizeSet
    have t_kt_list_SizeSet := T.kt_list_SizeSet
    have t_kt_dict_SizeSet := T.kt_dict_SizeSet
    have t_kt_SizeSet_SizeSet := T.kt_SizeSet_SizeSet
    have t_nf_SizeSet_SizeSet := T.nf_SizeSet_SizeSet
    have t_nf_NoneType_SizeSet := T.nf_NoneType_SizeSet
    have t_nf_int_SizeSet := T.nf_int_SizeSet
    have t_nf_bool_SizeSet := T.nf_bool_SizeSet
    have t_nf_str_SizeSet := T.nf_str_SizeSet
    have t_nf_tuple_SizeSet := T.nf_tuple_SizeSet
    have t_nf_list_SizeSet := T.nf_list_SizeSet
    have t_nf_dict_SizeSet := T.nf_dict_SizeSet
    have t_kt_NoSet_in_NoForm := T.kt_NoSet_in_NoForm
    have t_kt_NoSet_in_NoCounter := T.kt_NoSet_in_NoCounter
    have t_kt_NoSet_in_NoScheme := T.kt_NoSet_in_NoScheme
    have t_kt_NoSet_in_NoSize := T.kt_NoSet_in_NoSize
    have t_kt_NoSet_in_NoRing := T.kt_NoSet_in_NoRing
    have t_kt_NoSet_in_Outside := T.kt_NoSet_in_Outside
    have t_kt_NoSet_in_NoRun := T.kt_NoSet_in_NoRun
    have t_kt_NoSet_in_NoSet := T.kt_NoSet_in_NoSet
    have t_kt_NoSet_in_TooLong := T.kt_NoSet_in_TooLong
    have t_kt_NoSet_in_VE := T.kt_NoSet_in_VE
    have t_xm_NoSet := T.xm_NoSet
    have t_kt_TooLong_in_NoForm := T.kt_TooLong_in_NoForm
    have t_kt_TooLong_in_NoCounter := T.kt_TooLong_in_NoCounter
    have t_kt_TooLong_in_NoScheme := T.kt_TooLong_in_NoScheme
    have t_kt_TooLong_in_NoSize := T.kt_TooLong_in_NoSize
    have t_kt_TooLong_in_NoRing := T.kt_TooLong_in_NoRing
    have t_kt_TooLong_in_Outside := T.kt_TooLong_in_Outside
    have t_kt_TooLong_in_NoRun := T.kt_TooLong_in_NoRun
    have t_kt_TooLong_in_NoSet := T.kt_TooLong_in_NoSet
    have t_kt_TooLong_in_TooLong := T.kt_TooLong_in_TooLong
    have t_kt_TooLong_in_VE := T.kt_TooLong_in_VE
    have t_xm_TooLong := T.xm_TooLong
    have t_k_SizeSet := T.k_SizeSet
    obtain ⟨hs1, can1, ok1, ws1, wp1⟩ := id g
    obtain ⟨k11, k21, s11, s21⟩ := g.b
    obtain ⟨dx1, ea1, re1, em1, rm1, hp1, hea1, hre1, hem1, hrm1⟩ := id hs1
    rcases hy with ⟨p', w', t', rfl, g', ⟨lc, k⟩ | ⟨lc, k⟩⟩ | ⟨⟨tn, hT, ty⟩, k⟩
    rotate_left 2
    have kf := odd_kit T hT
    rotate_right 2
    · obtain ⟨hs2, can2, ok2, ws2, wp2⟩ := id g'
      obtain ⟨k12, k22, s12, s22⟩ := g'.b
      obtain ⟨dx2, ea2, re2, em2, rm2, hp2, hea2, hre2, hem2, hrm2⟩ := id hs2
      have lp := Lcm.lcm_pos k11 k12
      have tp : 1 ≤ topV t.s t'.s ∧ topV t.s t'.s ≤ 20000 := by unfold topV; split <;> omega
      refine ⟨_, (pss_cons (ps_asg (pe_call (ok_common_parts T) (hr.mono (by decide)) (by rfl) T.m_common_parts T.F_common_parts.kp T.b_common_parts .nil (passes_call (takes_of rfl rfl rfl rfl) fun _ _ _ _ h => h) (pa_cons (pv 0) (pa_cons (pv 1) pa_nil))) (pg_tup (by rfl) (pgs_cons (pg_name (i := 2) sc_SizeSetu__oru_.nd rfl (Or.inl rfl)) (pgs_cons (pg_name (i := 3) sc_SizeSetu__oru_.nd rfl (Or.inl rfl)) pgs_nil))))
      (pss_one (ps_ret (pe_call (ok_set_of T) (hr.mono (by decide)) (by rfl) T.m_set_of T.F_set_of.kp T.b_set_of .nil pass0 (pa_cons (pe_lc (own := [("n", 4)]) (g := gName 4) rfl sc_SizeSetu__oru_.nd (pi_range2 (by rfl) T.n_range (pa_cons pe_int (pa_cons (pe_op op_add (pv 2) (pv 3)) pa_nil))) (blkOk_by (own := [("n", 4)]) (N := ["self", "other", "start", "period", "n"]) (sc := defScope s_SizeSetu__oru_) (by decide +kernel)) (fun _ _ _ _ _ => (pg_name (i := 4) sc_SizeSetu__oru_.nd rfl (Or.inl rfl))) (fun _ _ _ _ _ => pts_one (PW.pt (pw_or (pt_cmpR (Own.isin (ok_SizeSetu__containsu_ T) (hr.mono (by decide)) T.O_SizeSetu__containsu__1 T.b_SizeSetu__containsu_ pass0) (pv 4) (pv 0) (by with_unfolding_all rfl)) (pw_or1 (pt_cmpR (Own.isin (ok_SizeSetu__containsu_ T) (hr.mono (by decide)) T.O_SizeSetu__containsu__1 T.b_SizeSetu__containsu_ pass0) (pv 4) (pv 1) (by with_unfolding_all rfl)))))) (fun _ _ _ _ _ => (pv 4))) (pa_cons (pv 2) (pa_cons (pv 3) pa_nil))))))), ?_⟩
      try dsimp only [L2.cxOf, L2.Cx.nox, L2.Cx.wish]
      try rw [st_SizeSetu__oru_]
      with_reducible refine Rd.seq (Rd.asg (Rd.call (Rd.cons (Rd.var (by walk_at "vr") (Rd.cons (Rd.var (by walk_at "vr") (Rd.nil ?_)))))))
      refine ⟨_, _, _, _, rfl, (by walk_at "sg"), .inl ⟨_, _, _, rfl, (by walk_at "sg"), .inl ⟨lc, fun q1 H1 S1 hq1 => ?_⟩⟩⟩
      refine Rd.gtup (by walk_at "hpt") rfl ?_
      with_reducible refine Rd.gcons (Rd.name (Rd.gcons (Rd.name (Rd.gnil (Rd.ret (Rd.call (Rd.cons (Rd.lc (Rd.rng2 (Rd.cons (Rd.c ?_)))))))))))
      with_reducible refine Rd.cons (Rd.op (Rd.var (by walk_at "vr") (Rd.var (by walk_at "vr") (Rd.i0 (Rd.nil (⟨_, _, rfl, ⟨(by walk_at "sc"), (by walk_at "sc"), (by walk_at "sc"), (by walk_at "sc")⟩, ?_⟩))))))
      intro D0 nD0
      refine' lc_range (fun i H' => Same H H' ∧ H' D0 = some (.lst ((M31.up (orF w w') i 1).map V.int))) (⟨by walk_at "frm", L2.upd_same⟩) (fun i H' hi p => ?lct0_u19) (fun H' p => ?lcd0_u19)
      case lct0_u19 =>
        obtain ⟨S9, hD⟩ := p
        have al9 : ((M31.up (orF w w') i 1).map V.int).length ≤ 88900 := by rw [List.length_map]; have := up_len (f := orF w w') i 1; omega
        with_reducible refine Rd.name ?_
        refine ⟨rfl, ?_⟩
        with_reducible refine Rd.or (Rd.test (Rd.op (Rd.var (by walk_at "vr") (Rd.var (by walk_at "vr") ?_))))
        refine ⟨_, _, _, rfl, (by walk_at "hp"), ?_⟩
        refine ⟨_, _, _, _, rfl, (by walk_at "set"), can1, ok1, .inl ⟨_, rfl, ⟨_, rfl, ?_⟩⟩⟩
        rw [decide_eq_true (show (1 : Int) ≤ 1 + (i : Int) by omega), Bool.true_and]
        with_reducible refine Rd.bl ?_
        refine Rd.ite (fun h0 => ?_) (fun h0 => ?_)
        · try simp only [decide_eq_true_eq, Bool.not_eq_true', decide_eq_false_iff_not, Bool.not_eq_true, Bool.not_eq_eq_eq_not, Bool.not_true, Bool.not_false] at h0
          with_reducible refine Rd.iteT rfl (Rd.var (by walk_at "vr") ?_)
          refine ⟨_, (by walk_at "hp"), (by walk_at "sz"), ?_⟩
          refine ⟨by walk_at "frm", ?_⟩
          rw [up_snoc, if_pos (by unfold orF; simp_all), List.map_append]
          exact L2.upd_same
        · try simp only [decide_eq_true_eq, Bool.not_eq_true', decide_eq_false_iff_not, Bool.not_eq_true, Bool.not_eq_eq_eq_not, Bool.not_true, Bool.not_false, Int.not_lt, Int.not_le, Decidable.not_not] at h0
          with_reducible refine Rd.test (Rd.op (Rd.var (by walk_at "vr") (Rd.var (by walk_at "vr") ?_)))
          refine ⟨_, _, _, rfl, (by walk_at "hp"), ?_⟩
          refine ⟨_, _, _, _, rfl, (by walk_at "set"), can2, ok2, .inl ⟨_, rfl, ⟨_, rfl, ?_⟩⟩⟩
          rw [decide_eq_true (show (1 : Int) ≤ 1 + (i : Int) by omega), Bool.true_and]
          with_reducible refine Rd.bl ?_
          refine Rd.ite (fun h1 => ?_) (fun h1 => ?_)
          · try simp only [decide_eq_true_eq, Bool.not_eq_true', decide_eq_false_iff_not, Bool.not_eq_true, Bool.not_eq_eq_eq_not, Bool.not_true, Bool.not_false] at h1
            with_reducible refine Rd.var (by walk_at "vr") ?_
            refine ⟨_, (by walk_at "hp"), (by walk_at "sz"), ?_⟩
            refine ⟨by walk_at "frm", ?_⟩
            rw [up_snoc, if_pos (by unfold orF; simp_all), List.map_append]
            exact L2.upd_same
          · try simp only [decide_eq_true_eq, Bool.not_eq_true', decide_eq_false_iff_not, Bool.not_eq_true, Bool.not_eq_eq_eq_not, Bool.not_true, Bool.not_false, Int.not_lt, Int.not_le, Decidable.not_not] at h1
            exact ⟨S9, by rw [up_snoc, if_neg (by unfold orF; simp_all), List.append_nil]; exact hD⟩
      obtain ⟨S9, hD9⟩ := p
      with_reducible refine Rd.cons (Rd.var (by walk_at "vr") (Rd.cons (Rd.var (by walk_at "vr") (Rd.nil ?_))))
      have hA9 : Asc (topV t.s t'.s + Lcm.lcmI t.p t'.p - 1) 1 (M31.up (orF w w') (topV t.s t'.s + Lcm.lcmI t.p t'.p - 1).toNat 1) := up_asc' (by omega)
      refine ⟨_, _, _, _, rfl, (by walk_at "hp"), hA9, (by omega), (by omega), (by omega), (by omega), fun r4 x4 z4 H4 S4 nr4 ca4 sn4 ok4 es4 ep4 eE4 eR4 => ?_⟩
      rw [← es4, ← ep4] at eE4 eR4
      exact k _ _ _ _ (by walk_at "frm") (by walk_at "nn") ⟨sn4.1, ca4, ok4, (by omega), (by omega)⟩ ⟨sn4.1, fun a o ha na => sn4.2 a o (by walk_at "hp") na⟩ es4 ep4 (fun m => by rw [eE4, List.mem_filter, M31.up_mem, decide_eq_true_eq]; exact ⟨fun ⟨⟨a, b, c⟩, d⟩ => ⟨a, d, c⟩, fun ⟨a, d, c⟩ => ⟨⟨a, by omega, c⟩, d⟩⟩) eR4
    · obtain ⟨hs2, can2, ok2, ws2, wp2⟩ := id g'
      obtain ⟨k12, k22, s12, s22⟩ := g'.b
      obtain ⟨dx2, ea2, re2, em2, rm2, hp2, hea2, hre2, hem2, hrm2⟩ := id hs2
      refine ⟨_, (pss_cons (ps_asg (pe_call (ok_common_parts T) (hr.mono (by decide)) (by rfl) T.m_common_parts T.F_common_parts.kp T.b_common_parts .nil (passes_call (takes_of rfl rfl rfl rfl) fun _ _ _ _ h => h) (pa_cons (pv 0) (pa_cons (pv 1) pa_nil))) (pg_tup (by rfl) (pgs_cons (pg_name (i := 2) sc_SizeSetu__oru_.nd rfl (Or.inl rfl)) (pgs_cons (pg_name (i := 3) sc_SizeSetu__oru_.nd rfl (Or.inl rfl)) pgs_nil))))
      (pss_one ps_never)), ?_⟩
      try dsimp only [L2.cxOf, L2.Cx.nox, L2.Cx.wish]
      try rw [st_SizeSetu__oru_]
      with_reducible refine Rd.seq (Rd.asg (Rd.call (Rd.cons (Rd.var (by walk_at "vr") (Rd.cons (Rd.var (by walk_at "vr") (Rd.nil ?_)))))))
      refine ⟨_, _, _, _, rfl, (by walk_at "sg"), .inl ⟨_, _, _, rfl, (by walk_at "sg"), .inr ⟨lc, fun H1 S1 => k _ (by walk_at "frm")⟩⟩⟩
    · skip
      refine ⟨_, (pss_cons (ps_asg (pe_call (ok_common_parts T) (hr.mono (by decide)) (by rfl) T.m_common_parts T.F_common_parts.kp T.b_common_parts .nil (passes_call (takes_of rfl rfl rfl rfl) fun _ _ _ _ h => h) (pa_cons (pv 0) (pa_cons (pv 1) pa_nil))) (pg_tup (by rfl) (pgs_cons (pg_name (i := 2) sc_SizeSetu__oru_.nd rfl (Or.inl rfl)) (pgs_cons (pg_name (i := 3) sc_SizeSetu__oru_.nd rfl (Or.inl rfl)) pgs_nil))))
      (pss_one ps_never)), ?_⟩
      try dsimp only [L2.cxOf, L2.Cx.nox, L2.Cx.wish]
      try rw [st_SizeSetu__oru_]
      with_reducible refine Rd.seq (Rd.asg (Rd.call (Rd.cons (Rd.var (by walk_at "vr") (Rd.cons (Rd.var (by walk_at "vr") (Rd.nil ?_)))))))
      refine ⟨_, _, _, _, rfl, (by walk_at "sg"), .inr ⟨⟨_, (by with_reducible assumption), (by walk_at "tyx")⟩, fun H1 S1 => k _ (by walk_at "frm")⟩⟩
/-! SizeSet.__le__ -/
theorem sc_SizeSetu__leu_ : FnScope ["self", "other", "start", "period", "n"] ["self", "other"] (defScope s_SizeSetu__leu_) := ⟨rfl, rfl, rfl, by decide +kernel, rfl, by decide +kernel, by decide +kernel⟩
theorem st_SizeSetu__leu_ {v0 v1 : V} : L2.start ["self", "other", "start", "period", "n"] [v0, v1] = [some v0, some v1, none, none, none] := rfl
abbrev sp_SizeSetu__leu_ (K : PySem.W.Frag) (A : Adr) : Sp := fun vs H Q E => ∃ (p : Addr) (w t : Rows) (y : V), vs = [.ref p, y] ∧ SetG A H p w t ∧ ((∃ (p' : Addr) (w' t' : Rows), y = .ref p' ∧ SetG A H p' w' t' ∧ ((Lcm.lcmI t.p t'.p ≤ 5000 ∧ ∀ (b : Bool) (H' : Hp), Same H H' → (b = true ↔ ∀ n, 1 ≤ n → n < topV t.s t'.s + Lcm.lcmI t.p t'.p → w.has n = true → w'.has n = true) → Q (.bl b) H') ∨ (5000 < Lcm.lcmI t.p t'.p ∧ ∀ H1, Same H H1 → E (.ref A.c_TooLong) none H1))) ∨ (OddS A K H y ∧ ∀ H1, Same H H1 → E (.ref A.c_NoSet) none H1))
theorem ok_SizeSetu__leu_ (T : Txt w K mg A) : FnOk P w K mg base (L2.CX P w) 4 A.f_SizeSetu__leu_ A.d_SizeSetu__leu_ ["self", "other"] (sp_SizeSetu__leu_ K A) := by
  refine T.F_SizeSetu__leu_.okX sc_SizeSetu__leu_ (fun vs H Q E h => ?_) (fun cdv Ar outer s H vs Q E hr h => ?_)
  · obtain ⟨p, w, t, y, rfl, g, hy⟩ := h
    rfl
  · obtain ⟨p, w, t, y, rfl, g, hy⟩ := h
    have hu := hu_of hr
    have t_i_SizeSet := T.i_SizeSet
    have t_kt_NoneType_SizeSet := T.kt_NoneType_SizeSet
    have t_kt_int_SizeSet := T.kt_int_SizeSet
    have t_kt_bool_SizeSet := T.kt_bool_SizeSet
    have t_kt_str_SizeSet := T.kt_str_SizeSet
    have t_kt_tuple_SizeSet := T.kt_tuple_SizeSet
    have t_kt_list_SizeSet := T.kt_list_SizeSet
    have t_kt_dict_SizeSet := T.kt_dict_SizeSet
    have t_kt_SizeSet_SizeSet := T.kt_SizeSet_SizeSet
    have t_nf_SizeSet_SizeSet := T.nf_SizeSet_SizeSet
    have t_nf_NoneType_SizeSet := T.nf_NoneType_SizeSet
    have t_nf_int_SizeSet := T.nf_int_SizeSet
    have t_nf_bool_SizeSet := T.nf_bool_SizeSet
    have t_nf_str_SizeSet := T.nf_str_SizeSet
    have t_nf_tuple_SizeSet := T.nf_tuple_SizeSet
    have t_nf_list_SizeSet := T.nf_list_SizeSet
    have t_nf_dict_SizeSet := T.nf_dict_SizeSet
    have t_kt_NoSet_in_NoForm := T.kt_NoSet_in_NoForm
    have t_kt_NoSet_in_NoCounter := T.kt_NoSet_in_NoCounter
    have t_kt_NoSet_in_NoScheme := T.kt_NoSet_in_NoScheme
    have t_kt_NoSet_in_NoSize := T.kt_NoSet_in_NoSize
    have t_kt_NoSet_in_NoRing := T.kt_NoSet_in_NoRing
    have t_kt_NoSet_in_Outside := T.kt_NoSet_in_Outside
    have t_kt_NoSet_in_NoRun := T.kt_NoSet_in_NoRun
    have t_kt_NoSet_in_NoSet := T.kt_NoSet_in_NoSet
    have t_kt_NoSet_in_TooLong := T.kt_NoSet_in_TooLong
    have t_kt_NoSet_in_VE := T.kt_NoSet_in_VE
    have t_xm_NoSet := T.xm_NoSet
    have t_kt_TooLong_in_NoForm := T.kt_TooLong_in_NoForm
    have t_kt_TooLong_in_NoCounter := T.kt_TooLong_in_NoCounter
    have t_kt_TooLong_in_NoScheme := T.kt_TooLong_in_NoScheme
    have t_kt_TooLong_in_NoSize := T.kt_TooLong_in_NoSize
    have t_kt_TooLong_in_NoRing := T.kt_TooLong_in_NoRing
    have t_kt_TooLong_in_Outside := T.kt_TooLong_in_Outside
    have t_kt_TooLong_in_NoRun := T.kt_TooLong_in_NoRun
    have t_kt_TooLong_in_NoSet := T.kt_TooLong_in_NoSet
    have t_kt_TooLong_in_TooLong := T.kt_TooLong_in_TooLong
    have t_kt_TooLong_in_VE := T.kt_TooLong_in_VE
    have t_xm_TooLong := T.xm_TooLong
    have t_k_SizeSet := T.k_SizeSet
    obtain ⟨hs1, can1, ok1, ws1, wp1⟩ := id g
    obtain ⟨k11, k21, s11, s21⟩ := g.b
    obtain ⟨dx1, ea1, re1, em1, rm1, hp1, hea1, hre1, hem1, hrm1⟩ := id hs1
    rcases hy with ⟨p', w', t', rfl, g', ⟨lc, k⟩ | ⟨lc, k⟩⟩ | ⟨⟨tn, hT, ty⟩, k⟩
    rotate_left 2
    have kf := odd_kit T hT
    rotate_right 2
    · obtain ⟨hs2, can2, ok2, ws2, wp2⟩ := id g'
      obtain ⟨k12, k22, s12, s22⟩ := g'.b
      obtain ⟨dx2, ea2, re2, em2, rm2, hp2, hea2, hre2, hem2, hrm2⟩ := id hs2
      have lp := Lcm.lcm_pos k11 k12
      have tp : 1 ≤ topV t.s t'.s ∧ topV t.s t'.s ≤ 20000 := by unfold topV; split <;> omega
      refine ⟨_, (pss_cons (ps_asg (pe_call (ok_common_parts T) (hr.mono (by decide)) (by rfl) T.m_common_parts T.F_common_parts.kp T.b_common_parts .nil (passes_call (takes_of rfl rfl rfl rfl) fun _ _ _ _ h => h) (pa_cons (pv 0) (pa_cons (pv 1) pa_nil))) (pg_tup (by rfl) (pgs_cons (pg_name (i := 2) sc_SizeSetu__leu_.nd rfl (Or.inl rfl)) (pgs_cons (pg_name (i := 3) sc_SizeSetu__leu_.nd rfl (Or.inl rfl)) pgs_nil))))
      (pss_one (ps_ret (pe_callB (cr_all (by rfl)) (by rfl) T.n_all (by decide +kernel) (pa_cons (pe_lc (own := [("n", 4)]) (g := gName 4) rfl sc_SizeSetu__leu_.nd (pi_range2 (by rfl) T.n_range (pa_cons pe_int (pa_cons (pe_op op_add (pv 2) (pv 3)) pa_nil))) (blkOk_by (own := [("n", 4)]) (N := ["self", "other", "start", "period", "n"]) (sc := defScope s_SizeSetu__leu_) (by decide +kernel)) (fun _ _ _ _ _ => (pg_name (i := 4) sc_SizeSetu__leu_.nd rfl (Or.inl rfl))) (fun _ _ _ _ _ => pts_one (pt_cmpR (Own.isin (ok_SizeSetu__containsu_ T) (hr.mono (by decide)) T.O_SizeSetu__containsu__1 T.b_SizeSetu__containsu_ pass0) (pv 4) (pv 0) (by with_unfolding_all rfl))) (fun _ _ _ _ _ => (pe_cmpR (Own.isin (ok_SizeSetu__containsu_ T) (hr.mono (by decide)) T.O_SizeSetu__containsu__1 T.b_SizeSetu__containsu_ pass0) (pv 4) (pv 1) (by with_unfolding_all rfl)))) pa_nil))))), ?_⟩
      try dsimp only [L2.cxOf, L2.Cx.nox, L2.Cx.wish]
      try rw [st_SizeSetu__leu_]
      with_reducible refine Rd.seq (Rd.asg (Rd.call (Rd.cons (Rd.var (by walk_at "vr") (Rd.cons (Rd.var (by walk_at "vr") (Rd.nil ?_)))))))
      refine ⟨_, _, _, _, rfl, (by walk_at "sg"), .inl ⟨_, _, _, rfl, (by walk_at "sg"), .inl ⟨lc, fun q1 H1 S1 hq1 => ?_⟩⟩⟩
      refine Rd.gtup (by walk_at "hpt") rfl ?_
      with_reducible refine Rd.gcons (Rd.name (Rd.gcons (Rd.name (Rd.gnil (Rd.ret (Rd.cB (Rd.cons (Rd.lc (Rd.rng2 (Rd.cons (Rd.c ?_)))))))))))
      with_reducible refine Rd.cons (Rd.op (Rd.var (by walk_at "vr") (Rd.var (by walk_at "vr") (Rd.i0 (Rd.nil (⟨_, _, rfl, ⟨(by walk_at "sc"), (by walk_at "sc"), (by walk_at "sc"), (by walk_at "sc")⟩, ?_⟩))))))
      intro D0 nD0
      refine' lc_range (fun i H' => Same H H' ∧ H' D0 = some (.lst (((M31.up w.has i 1).map w'.has).map V.bl))) (⟨by walk_at "frm", L2.upd_same⟩) (fun i H' hi p => ?lct0_u21) (fun H' p => ?lcd0_u21)
      case lct0_u21 =>
        obtain ⟨S9, hD⟩ := p
        have al9 : (((M31.up w.has i 1).map w'.has).map V.bl).length ≤ 88900 := by rw [List.length_map, List.length_map]; have := up_len (f := w.has) i 1; omega
        with_reducible refine Rd.name ?_
        refine ⟨rfl, ?_⟩
        with_reducible refine Rd.test (Rd.op (Rd.var (by walk_at "vr") (Rd.var (by walk_at "vr") ?_)))
        refine ⟨_, _, _, rfl, (by walk_at "hp"), ?_⟩
        refine ⟨_, _, _, _, rfl, (by walk_at "set"), can1, ok1, .inl ⟨_, rfl, ⟨_, rfl, ?_⟩⟩⟩
        rw [decide_eq_true (show (1 : Int) ≤ 1 + (i : Int) by omega), Bool.true_and]
        with_reducible refine Rd.bl ?_
        refine Rd.ite (fun h0 => ?_) (fun h0 => ?_)
        · try simp only [decide_eq_true_eq, Bool.not_eq_true', decide_eq_false_iff_not, Bool.not_eq_true, Bool.not_eq_eq_eq_not, Bool.not_true, Bool.not_false] at h0
          with_reducible refine Rd.op (Rd.var (by walk_at "vr") (Rd.var (by walk_at "vr") ?_))
          refine ⟨_, _, _, rfl, (by walk_at "hp"), ?_⟩
          refine ⟨_, _, _, _, rfl, (by walk_at "set"), can2, ok2, .inl ⟨_, rfl, ⟨_, rfl, ?_⟩⟩⟩
          rw [decide_eq_true (show (1 : Int) ≤ 1 + (i : Int) by omega), Bool.true_and]
          refine ⟨_, (by walk_at "hp"), (by walk_at "sz"), ?_⟩
          refine ⟨by walk_at "frm", ?_⟩
          rw [up_snoc, if_pos h0, List.map_append, List.map_append]
          exact L2.upd_same
        · try simp only [decide_eq_true_eq, Bool.not_eq_true', decide_eq_false_iff_not, Bool.not_eq_true, Bool.not_eq_eq_eq_not, Bool.not_true, Bool.not_false, Int.not_lt, Int.not_le, Decidable.not_not] at h0
          exact ⟨S9, by rw [up_snoc, if_neg (by rw [h0]; exact Bool.false_ne_true), List.append_nil]; exact hD⟩
      obtain ⟨S9, hD9⟩ := p
      with_reducible refine Rd.nil ?_
      refine ⟨_, _, rfl, (by walk_at "hpl"), ?_⟩
      refine k _ _ (by walk_at "frm") (all_up.trans ⟨fun h n a b => h n a (by omega), fun h n a b => h n a (by omega)⟩)
    · obtain ⟨hs2, can2, ok2, ws2, wp2⟩ := id g'
      obtain ⟨k12, k22, s12, s22⟩ := g'.b
      obtain ⟨dx2, ea2, re2, em2, rm2, hp2, hea2, hre2, hem2, hrm2⟩ := id hs2
      refine ⟨_, (pss_cons (ps_asg (pe_call (ok_common_parts T) (hr.mono (by decide)) (by rfl) T.m_common_parts T.F_common_parts.kp T.b_common_parts .nil (passes_call (takes_of rfl rfl rfl rfl) fun _ _ _ _ h => h) (pa_cons (pv 0) (pa_cons (pv 1) pa_nil))) (pg_tup (by rfl) (pgs_cons (pg_name (i := 2) sc_SizeSetu__leu_.nd rfl (Or.inl rfl)) (pgs_cons (pg_name (i := 3) sc_SizeSetu__leu_.nd rfl (Or.inl rfl)) pgs_nil))))
      (pss_one ps_never)), ?_⟩
      try dsimp only [L2.cxOf, L2.Cx.nox, L2.Cx.wish]
      try rw [st_SizeSetu__leu_]
      with_reducible refine Rd.seq (Rd.asg (Rd.call (Rd.cons (Rd.var (by walk_at "vr") (Rd.cons (Rd.var (by walk_at "vr") (Rd.nil ?_)))))))
      refine ⟨_, _, _, _, rfl, (by walk_at "sg"), .inl ⟨_, _, _, rfl, (by walk_at "sg"), .inr ⟨lc, fun H1 S1 => k _ (by walk_at "frm")⟩⟩⟩
    · skip
      refine ⟨_, (pss_cons (ps_asg (pe_call (ok_common_parts T) (hr.mono (by decide)) (by rfl) T.m_common_parts T.F_common_parts.kp T.b_common_parts .nil (passes_call (takes_of rfl rfl rfl rfl) fun _ _ _ _ h => h) (pa_cons (pv 0) (pa_cons (pv 1) pa_nil))) (pg_tup (by rfl) (pgs_cons (pg_name (i := 2) sc_SizeSetu__leu_.nd rfl (Or.inl rfl)) (pgs_cons (pg_name (i := 3) sc_SizeSetu__leu_.nd rfl (Or.inl rfl)) pgs_nil))))
      (pss_one ps_never)), ?_⟩
      try dsimp only [L2.cxOf, L2.Cx.nox, L2.Cx.wish]
      try rw [st_SizeSetu__leu_]
      with_reducible refine Rd.seq (Rd.asg (Rd.call (Rd.cons (Rd.var (by walk_at "vr") (Rd.cons (Rd.var (by walk_at "vr") (Rd.nil ?_)))))))
      refine ⟨_, _, _, _, rfl, (by walk_at "sg"), .inr ⟨⟨_, (by with_reducible assumption), (by walk_at "tyx")⟩, fun H1 S1 => k _ (by walk_at "frm")⟩⟩
/-! SizeSet.__bool__ -/
theorem sc_SizeSetu__boolu_ : FnScope ["self"] ["self"] (defScope s_SizeSetu__boolu_) := ⟨rfl, rfl, rfl, by decide +kernel, rfl, by decide +kernel, by decide +kernel⟩
abbrev sp_SizeSetu__boolu_ (K : PySem.W.Frag) (A : Adr) : Sp := fun vs H Q _ => ∃ (p : Addr) (w t : Rows), vs = [.ref p] ∧ IsSet A H p w t ∧ Q (.bl (decide ((0 : Int) < (t.E.length : Int) + (t.R.length : Int)))) H
theorem ok_SizeSetu__boolu_ (T : Txt w K mg A) : FnOk P w K mg base CX0 1 A.f_SizeSetu__boolu_ A.d_SizeSetu__boolu_ ["self"] (sp_SizeSetu__boolu_ K A) := by
  refine T.F_SizeSetu__boolu_.ok sc_SizeSetu__boolu_ (fun vs H Q E h => ?_) (fun cdv Ar outer s H vs Q E hr h => ?_)
  · obtain ⟨p, w, t, rfl, ⟨dx, ea, re, em, rm, hp, hea, hre, hem, hrm⟩, k⟩ := h
    rfl
  · obtain ⟨p, w, t, rfl, ⟨dx, ea, re, em, rm, hp, hea, hre, hem, hrm⟩, k⟩ := h
    have hu := hu_of hr
    have t_i_SizeSet := T.i_SizeSet
    have t_kt_NoneType_SizeSet := T.kt_NoneType_SizeSet
    have t_kt_int_SizeSet := T.kt_int_SizeSet
    have t_kt_bool_SizeSet := T.kt_bool_SizeSet
    have t_kt_str_SizeSet := T.kt_str_SizeSet
    have t_kt_tuple_SizeSet := T.kt_tuple_SizeSet
    have t_kt_list_SizeSet := T.kt_list_SizeSet
    have t_kt_dict_SizeSet := T.kt_dict_SizeSet
    have t_kt_SizeSet_SizeSet := T.kt_SizeSet_SizeSet
    have t_nf_SizeSet_SizeSet := T.nf_SizeSet_SizeSet
    have t_nf_NoneType_SizeSet := T.nf_NoneType_SizeSet
    have t_nf_int_SizeSet := T.nf_int_SizeSet
    have t_nf_bool_SizeSet := T.nf_bool_SizeSet
    have t_nf_str_SizeSet := T.nf_str_SizeSet
    have t_nf_tuple_SizeSet := T.nf_tuple_SizeSet
    have t_nf_list_SizeSet := T.nf_list_SizeSet
    have t_nf_dict_SizeSet := T.nf_dict_SizeSet
    have t_kt_NoSet_in_NoForm := T.kt_NoSet_in_NoForm
    have t_kt_NoSet_in_NoCounter := T.kt_NoSet_in_NoCounter
    have t_kt_NoSet_in_NoScheme := T.kt_NoSet_in_NoScheme
    have t_kt_NoSet_in_NoSize := T.kt_NoSet_in_NoSize
    have t_kt_NoSet_in_NoRing := T.kt_NoSet_in_NoRing
    have t_kt_NoSet_in_Outside := T.kt_NoSet_in_Outside
    have t_kt_NoSet_in_NoRun := T.kt_NoSet_in_NoRun
    have t_kt_NoSet_in_NoSet := T.kt_NoSet_in_NoSet
    have t_kt_NoSet_in_TooLong := T.kt_NoSet_in_TooLong
    have t_kt_NoSet_in_VE := T.kt_NoSet_in_VE
    have t_xm_NoSet := T.xm_NoSet
    have t_kt_TooLong_in_NoForm := T.kt_TooLong_in_NoForm
    have t_kt_TooLong_in_NoCounter := T.kt_TooLong_in_NoCounter
    have t_kt_TooLong_in_NoScheme := T.kt_TooLong_in_NoScheme
    have t_kt_TooLong_in_NoSize := T.kt_TooLong_in_NoSize
    have t_kt_TooLong_in_NoRing := T.kt_TooLong_in_NoRing
    have t_kt_TooLong_in_Outside := T.kt_TooLong_in_Outside
    have t_kt_TooLong_in_NoRun := T.kt_TooLong_in_NoRun
    have t_kt_TooLong_in_NoSet := T.kt_TooLong_in_NoSet
    have t_kt_TooLong_in_TooLong := T.kt_TooLong_in_TooLong
    have t_kt_TooLong_in_VE := T.kt_TooLong_in_VE
    have t_xm_TooLong := T.xm_TooLong
    have t_k_SizeSet := T.k_SizeSet
    refine ⟨_, (pss_one (ps_ret (pe_callTy call_bool1 (by rfl) T.n_bool (by decide +kernel) (pa_cons (pe_cmpR op_gt (pe_op op_add (pe_callB call_len_seq (by rfl) T.n_len PySem.boot_len (pa_cons (pe_fld (pv 0) rfl) pa_nil)) (pe_callB call_len_seq (by rfl) T.n_len PySem.boot_len (pa_cons (pe_fld (pv 0) rfl) pa_nil))) pe_int (nomark _)) pa_nil)))), ?_⟩
    try dsimp only [L2.cxOf, L2.Cx.nox, L2.Cx.wish]
    with_reducible refine Rd.ret (Rd.cB (Rd.cons (Rd.op (Rd.op (Rd.cB (Rd.cons (Rd.fld (Rd.var (by walk_at "vr") (⟨_, _, _, _, _, rfl, (by walk_at "hp"), T.k_SizeSet, T.n_SizeSet_early, (by walk_at "lk"), (Rd.nil (⟨_, _, rfl, (by walk_at "hpq"), ?_⟩))⟩)))))))))
    with_reducible refine Rd.cB (Rd.cons (Rd.fld (Rd.var (by walk_at "vr") (⟨_, _, _, _, _, rfl, (by walk_at "hp"), T.k_SizeSet, T.n_SizeSet_rests, (by walk_at "lk"), (Rd.nil (⟨_, _, rfl, (by walk_at "hpq"), (Rd.i0 (Rd.c (Rd.i0 (Rd.nil ((.inr ⟨_, rfl, ?_⟩))))))⟩))⟩))))
    rw [List.length_map, List.length_map]
    exact k
/-! SizeSet.least -/
theorem sc_SizeSet_least : FnScope ["self", "n"] ["self"] (defScope s_SizeSet_least) := ⟨rfl, rfl, rfl, by decide +kernel, rfl, by decide +kernel, by decide +kernel⟩
theorem st_SizeSet_least {v0 : V} : L2.start ["self", "n"] [v0] = [some v0, none] := rfl
abbrev sp_SizeSet_least (K : PySem.W.Frag) (A : Adr) : Sp := fun vs H Q _ => ∃ (p : Addr) (w t : Rows), vs = [.ref p] ∧ IsSet A H p w t ∧ Canon w t ∧ w.Ok ∧ w.s ≤ 20000 ∧ w.p ≤ 20000 ∧ ∀ v, LeastV w t v → Q v H
theorem ok_SizeSet_least (T : Txt w K mg A) : FnOk P w K mg base CX0 3 A.f_SizeSet_least A.d_SizeSet_least ["self"] (sp_SizeSet_least K A) := by
  refine T.F_SizeSet_least.ok sc_SizeSet_least (fun vs H Q E h => ?_) (fun cdv Ar outer s H vs Q E hr h => ?_)
  · obtain ⟨p, w, t, rfl, hs, can, ok, sb, pb, k⟩ := h
    rfl
  · obtain ⟨p, w, t, rfl, hs, can, ok, sb, pb, k⟩ := h
    have hu := hu_of hr
    have t_i_SizeSet := T.i_SizeSet
    have t_kt_NoneType_SizeSet := T.kt_NoneType_SizeSet
    have t_kt_int_SizeSet := T.kt_int_SizeSet
    have t_kt_bool_SizeSet := T.kt_bool_SizeSet
    have t_kt_str_SizeSet := T.kt_str_SizeSet
    have t_kt_tuple_SizeSet := T.kt_tuple_SizeSet
    have t_kt_list_SizeSet := T.kt_list_SizeSet
    have t_kt_dict_SizeSet := T.kt_dict_SizeSet
    have t_kt_SizeSet_SizeSet := T.kt_SizeSet_SizeSet
    have t_nf_SizeSet_SizeSet := T.nf_SizeSet_SizeSet
    have t_nf_NoneType_SizeSet := T.nf_NoneType_SizeSet
    have t_nf_int_SizeSet := T.nf_int_SizeSet
    have t_nf_bool_SizeSet := T.nf_bool_SizeSet
    have t_nf_str_SizeSet := T.nf_str_SizeSet
    have t_nf_tuple_SizeSet := T.nf_tuple_SizeSet
    have t_nf_list_SizeSet := T.nf_list_SizeSet
    have t_nf_dict_SizeSet := T.nf_dict_SizeSet
    have t_kt_NoSet_in_NoForm := T.kt_NoSet_in_NoForm
    have t_kt_NoSet_in_NoCounter := T.kt_NoSet_in_NoCounter
    have t_kt_NoSet_in_NoScheme := T.kt_NoSet_in_NoScheme
    have t_kt_NoSet_in_NoSize := T.kt_NoSet_in_NoSize
    have t_kt_NoSet_in_NoRing := T.kt_NoSet_in_NoRing
    have t_kt_NoSet_in_Outside := T.kt_NoSet_in_Outside
    have t_kt_NoSet_in_NoRun := T.kt_NoSet_in_NoRun
    have t_kt_NoSet_in_NoSet := T.kt_NoSet_in_NoSet
    have t_kt_NoSet_in_TooLong := T.kt_NoSet_in_TooLong
    have t_kt_NoSet_in_VE := T.kt_NoSet_in_VE
    have t_xm_NoSet := T.xm_NoSet
    have t_kt_TooLong_in_NoForm := T.kt_TooLong_in_NoForm
    have t_kt_TooLong_in_NoCounter := T.kt_TooLong_in_NoCounter
    have t_kt_TooLong_in_NoScheme := T.kt_TooLong_in_NoScheme
    have t_kt_TooLong_in_NoSize := T.kt_TooLong_in_NoSize
    have t_kt_TooLong_in_NoRing := T.kt_TooLong_in_NoRing
    have t_kt_TooLong_in_Outside := T.kt_TooLong_in_Outside
    have t_kt_TooLong_in_NoRun := T.kt_TooLong_in_NoRun
    have t_kt_TooLong_in_NoSet := T.kt_TooLong_in_NoSet
    have t_kt_TooLong_in_TooLong := T.kt_TooLong_in_TooLong
    have t_kt_TooLong_in_VE := T.kt_TooLong_in_VE
    have t_xm_TooLong := T.xm_TooLong
    have t_k_SizeSet := T.k_SizeSet
    have k1 := can.k.pos
    have kp := can.kp
    have s2 := can.s2
    have s1 := can.s1
    have hs0 := hs
    obtain ⟨dx, ea, re, em, rm, hp, hea, hre, hem, hrm⟩ := hs
    refine ⟨_, (pss_cons (ps_for PassesOwn.never rfl (pi_range2 (by rfl) T.n_range (pa_cons pe_int (pa_cons (pe_op op_add (pe_fld (pv 0) rfl) (pe_fld (pv 0) rfl)) pa_nil))) (pg_name (i := 1) sc_SizeSet_least.nd rfl (Or.inl rfl)) (pss_one (ps_if (pt_cmpR (Own.isin (ok_SizeSetu__containsu_ T) (hr.mono (by decide)) T.O_SizeSetu__containsu__1 T.b_SizeSetu__containsu_ pass0) (pv 1) (pv 0) (by with_unfolding_all rfl)) (pss_one (ps_ret (pv 1))) pss_nil)))
      (pss_one (ps_ret pe_non))), ?_⟩
    try dsimp only [L2.cxOf, L2.Cx.nox, L2.Cx.wish]
    try rw [st_SizeSet_least]
    with_reducible refine Rd.seq (Rd.fr (Rd.rng2 (Rd.cons (Rd.c (Rd.cons (Rd.op (Rd.fld (Rd.var (by walk_at "vr") (⟨_, _, _, _, _, rfl, (by walk_at "hp"), T.k_SizeSet, T.n_SizeSet_start, (by walk_at "lk"), (Rd.fld (Rd.var (by walk_at "vr") ?_))⟩)))))))))
    with_reducible refine ⟨_, _, _, _, _, rfl, (by walk_at "hp"), T.k_SizeSet, T.n_SizeSet_period, (by walk_at "lk"), (Rd.i0 (Rd.nil (⟨_, _, rfl, ⟨(by walk_at "sc"), (by walk_at "sc"), (by walk_at "sc"), (by walk_at "sc")⟩, ?_⟩)))⟩
    refine for_range (lo := 1) (fun (i : Nat) (σ : L2.St) (H' : Hp) => ∃ v1 : Option V, σ = [some (.ref p), v1] ∧ H' = H ∧ ∀ m, 1 ≤ m → m < 1 + (i : Int) → w.has m = false) ⟨_, rfl, rfl, fun m a b => by omega⟩ (fun i σ H0 hi ⟨v1, es, eh, hno⟩ => ?_) (fun σ H0 ⟨v1, es, eh, hno⟩ => ?_)
    · subst es eh
      with_reducible refine Rd.name (Rd.ifS (Rd.test (Rd.op (Rd.var (by walk_at "vr") (Rd.var (by walk_at "vr") ?_)))))
      refine ⟨_, _, _, rfl, (by walk_at "hp"), ?_⟩
      refine ⟨_, _, _, _, rfl, (by walk_at "set"), (by assumption), (by assumption), .inl ⟨_, rfl, ⟨_, rfl, ?_⟩⟩⟩
      with_reducible refine Rd.bl ?_
      refine Rd.ite (fun h0 => ?_) (fun h0 => ?_)
      · try simp only [decide_eq_true_eq, Bool.not_eq_true', decide_eq_false_iff_not, Bool.not_eq_true, Bool.not_eq_eq_eq_not, Bool.not_true, Bool.not_false] at h0
        with_reducible refine Rd.ret (Rd.var (by walk_at "vr") ?_)
        exact k _ (.inl ⟨_, rfl, by omega, by (rw [decide_eq_true (show (1 : Int) ≤ 1 + (i : Int) by omega), Bool.true_and] at h0); exact h0, hno⟩)
      · try simp only [decide_eq_true_eq, Bool.not_eq_true', decide_eq_false_iff_not, Bool.not_eq_true, Bool.not_eq_eq_eq_not, Bool.not_true, Bool.not_false, Int.not_lt, Int.not_le, Decidable.not_not] at h0
        with_reducible refine Rd.next ?_
        refine ⟨_, rfl, rfl, fun m a b => ?_⟩
        rcases (by omega : m < 1 + (i : Int) ∨ m = 1 + (i : Int)) with q | q
        · exact hno m a q
        · subst q
          rw [decide_eq_true a, Bool.true_and] at h0
          simpa using h0
    · subst es eh
      with_reducible refine Rd.ret (Rd.c ?_)
      exact k _ (.inr ⟨rfl, fun m a b => hno m a (by omega)⟩)
/-! SizeSet.none -/
theorem sc_SizeSet_none : FnScope [] [] (defScope s_SizeSet_none) := ⟨rfl, rfl, rfl, by decide +kernel, rfl, by decide +kernel, by decide +kernel⟩
theorem st_SizeSet_none : L2.start [] [] = [] := rfl
abbrev sp_SizeSet_none (K : PySem.W.Frag) (A : Adr) : Sp := fun vs H Q _ => vs = [] ∧ ∀ (r : Addr) (t : Rows) (H' : Hp), Same H H' → H r = none → SetG A H' r (⟨[], 1, 1, []⟩ : Rows) t → Q (.ref r) H'
theorem ok_SizeSet_none (T : Txt w K mg A) : FnOk P w K mg base CX0 7 A.f_SizeSet_none A.d_SizeSet_none [] (sp_SizeSet_none K A) := by
  refine T.F_SizeSet_none.ok sc_SizeSet_none (fun vs H Q E h => ?_) (fun cdv Ar outer s H vs Q E hr h => ?_)
  · obtain ⟨rfl, k⟩ := h
    rfl
  · obtain ⟨rfl, k⟩ := h
    have hu := hu_of hr
    have t_i_SizeSet := T.i_SizeSet
    have t_kt_NoneType_SizeSet := T.kt_NoneType_SizeSet
    have t_kt_int_SizeSet := T.kt_int_SizeSet
    have t_kt_bool_SizeSet := T.kt_bool_SizeSet
    have t_kt_str_SizeSet := T.kt_str_SizeSet
    have t_kt_tuple_SizeSet := T.kt_tuple_SizeSet
    have t_kt_list_SizeSet := T.kt_list_SizeSet
    have t_kt_dict_SizeSet := T.kt_dict_SizeSet
    have t_kt_SizeSet_SizeSet := T.kt_SizeSet_SizeSet
    have t_nf_SizeSet_SizeSet := T.nf_SizeSet_SizeSet
    have t_nf_NoneType_SizeSet := T.nf_NoneType_SizeSet
    have t_nf_int_SizeSet := T.nf_int_SizeSet
    have t_nf_bool_SizeSet := T.nf_bool_SizeSet
    have t_nf_str_SizeSet := T.nf_str_SizeSet
    have t_nf_tuple_SizeSet := T.nf_tuple_SizeSet
    have t_nf_list_SizeSet := T.nf_list_SizeSet
    have t_nf_dict_SizeSet := T.nf_dict_SizeSet
    have t_kt_NoSet_in_NoForm := T.kt_NoSet_in_NoForm
    have t_kt_NoSet_in_NoCounter := T.kt_NoSet_in_NoCounter
    have t_kt_NoSet_in_NoScheme := T.kt_NoSet_in_NoScheme
    have t_kt_NoSet_in_NoSize := T.kt_NoSet_in_NoSize
    have t_kt_NoSet_in_NoRing := T.kt_NoSet_in_NoRing
    have t_kt_NoSet_in_Outside := T.kt_NoSet_in_Outside
    have t_kt_NoSet_in_NoRun := T.kt_NoSet_in_NoRun
    have t_kt_NoSet_in_NoSet := T.kt_NoSet_in_NoSet
    have t_kt_NoSet_in_TooLong := T.kt_NoSet_in_TooLong
    have t_kt_NoSet_in_VE := T.kt_NoSet_in_VE
    have t_xm_NoSet := T.xm_NoSet
    have t_kt_TooLong_in_NoForm := T.kt_TooLong_in_NoForm
    have t_kt_TooLong_in_NoCounter := T.kt_TooLong_in_NoCounter
    have t_kt_TooLong_in_NoScheme := T.kt_TooLong_in_NoScheme
    have t_kt_TooLong_in_NoSize := T.kt_TooLong_in_NoSize
    have t_kt_TooLong_in_NoRing := T.kt_TooLong_in_NoRing
    have t_kt_TooLong_in_Outside := T.kt_TooLong_in_Outside
    have t_kt_TooLong_in_NoRun := T.kt_TooLong_in_NoRun
    have t_kt_TooLong_in_NoSet := T.kt_TooLong_in_NoSet
    have t_kt_TooLong_in_TooLong := T.kt_TooLong_in_TooLong
    have t_kt_TooLong_in_VE := T.kt_TooLong_in_VE
    have t_xm_TooLong := T.xm_TooLong
    have t_k_SizeSet := T.k_SizeSet
    have ok9 : Rows.Ok (⟨[], 1, 1, []⟩ : Rows) := ⟨by decide, by decide, trivial, trivial⟩
    refine ⟨_, (pss_one (ps_ret (pe_make T.K_SizeSet (ok_SizeSetu__initu_ T) (hr.mono (by decide)) (by rfl) T.m_SizeSet T.b_SizeSetu__initu_ .nil Sta.passF (pa_cons (pe_lst pa_nil) (pa_cons pe_int (pa_cons pe_int (pa_cons (pe_lst pa_nil) pa_nil))))))), ?_⟩
    try dsimp only [L2.cxOf, L2.Cx.nox, L2.Cx.wish]
    try rw [st_SizeSet_none]
    with_reducible refine Rd.ret (Rd.make (Rd.cons (Rd.lst (Rd.nil (Rd.laid (by walk_at "ll") ?_)))))
    intro p0 np0
    with_reducible refine Rd.cons (Rd.c (Rd.cons (Rd.c (Rd.cons (Rd.lst (Rd.nil (Rd.laid (by walk_at "ll") ?_)))))))
    intro p1 np1
    with_reducible refine Rd.nil ?_
    intro x1 dx1 nx1 ndx1 ne1
    refine ⟨_, _, _, _, _, _, rfl, L2.upd_same, .inl ⟨_, _, (⟨[], 1, 1, []⟩ : Rows), rfl, rfl, rfl, rfl, (show _ = some (HO.lst []) from (by walk_at "hp")), (show _ = some (HO.lst []) from (by walk_at "hp")), (by assumption), (by decide), (by decide), fun t1 H1 F1 ca1 sn1 => ?_⟩⟩
    refine ⟨rfl, ?_⟩
    exact k _ _ _ (by walk_at "frm") (by walk_at "nn") ⟨sn1.1, ca1, ok9, by decide, by decide⟩
/-! SizeSet.full_set -/
theorem sc_SizeSet_full_set : FnScope [] [] (defScope s_SizeSet_full_set) := ⟨rfl, rfl, rfl, by decide +kernel, rfl, by decide +kernel, by decide +kernel⟩
theorem st_SizeSet_full_set : L2.start [] [] = [] := rfl
abbrev sp_SizeSet_full_set (K : PySem.W.Frag) (A : Adr) : Sp := fun vs H Q _ => vs = [] ∧ ∀ (r : Addr) (t : Rows) (H' : Hp), Same H H' → H r = none → SetG A H' r (⟨[], 1, 1, [0]⟩ : Rows) t → Q (.ref r) H'
theorem ok_SizeSet_full_set (T : Txt w K mg A) : FnOk P w K mg base CX0 7 A.f_SizeSet_full_set A.d_SizeSet_full_set [] (sp_SizeSet_full_set K A) := by
  refine T.F_SizeSet_full_set.ok sc_SizeSet_full_set (fun vs H Q E h => ?_) (fun cdv Ar outer s H vs Q E hr h => ?_)
  · obtain ⟨rfl, k⟩ := h
    rfl
  · obtain ⟨rfl, k⟩ := h
    have hu := hu_of hr
    have t_i_SizeSet := T.i_SizeSet
    have t_kt_NoneType_SizeSet := T.kt_NoneType_SizeSet
    have t_kt_int_SizeSet := T.kt_int_SizeSet
    have t_kt_bool_SizeSet := T.kt_bool_SizeSet
    have t_kt_str_SizeSet := T.kt_str_SizeSet
    have t_kt_tuple_SizeSet := T.kt_tuple_SizeSet
    have t_kt_list_SizeSet := T.kt_list_SizeSet
    have t_kt_dict_SizeSet := T.kt_dict_SizeSet
    have t_kt_SizeSet_SizeSet := T.kt_SizeSet_SizeSet
    have t_nf_SizeSet_SizeSet := T.nf_SizeSet_SizeSet
    have t_nf_NoneType_SizeSet := T.nf_NoneType_SizeSet
    have t_nf_int_SizeSet := T.nf_int_SizeSet
    have t_nf_bool_SizeSet := T.nf_bool_SizeSet
    have t_nf_str_SizeSet := T.nf_str_SizeSet
    have t_nf_tuple_SizeSet := T.nf_tuple_SizeSet
    have t_nf_list_SizeSet := T.nf_list_SizeSet
    have t_nf_dict_SizeSet := T.nf_dict_SizeSet
    have t_kt_NoSet_in_NoForm := T.kt_NoSet_in_NoForm
    have t_kt_NoSet_in_NoCounter := T.kt_NoSet_in_NoCounter
    have t_kt_NoSet_in_NoScheme := T.kt_NoSet_in_NoScheme
    have t_kt_NoSet_in_NoSize := T.kt_NoSet_in_NoSize
    have t_kt_NoSet_in_NoRing := T.kt_NoSet_in_NoRing
    have t_kt_NoSet_in_Outside := T.kt_NoSet_in_Outside
    have t_kt_NoSet_in_NoRun := T.kt_NoSet_in_NoRun
    have t_kt_NoSet_in_NoSet := T.kt_NoSet_in_NoSet
    have t_kt_NoSet_in_TooLong := T.kt_NoSet_in_TooLong
    have t_kt_NoSet_in_VE := T.kt_NoSet_in_VE
    have t_xm_NoSet := T.xm_NoSet
    have t_kt_TooLong_in_NoForm := T.kt_TooLong_in_NoForm
    have t_kt_TooLong_in_NoCounter := T.kt_TooLong_in_NoCounter
    have t_kt_TooLong_in_NoScheme := T.kt_TooLong_in_NoScheme
    have t_kt_TooLong_in_NoSize := T.kt_TooLong_in_NoSize
    have t_kt_TooLong_in_NoRing := T.kt_TooLong_in_NoRing
    have t_kt_TooLong_in_Outside := T.kt_TooLong_in_Outside
    have t_kt_TooLong_in_NoRun := T.kt_TooLong_in_NoRun
    have t_kt_TooLong_in_NoSet := T.kt_TooLong_in_NoSet
    have t_kt_TooLong_in_TooLong := T.kt_TooLong_in_TooLong
    have t_kt_TooLong_in_VE := T.kt_TooLong_in_VE
    have t_xm_TooLong := T.xm_TooLong
    have t_k_SizeSet := T.k_SizeSet
    have ok9 : Rows.Ok (⟨[], 1, 1, [0]⟩ : Rows) := ⟨by decide, by decide, trivial, ⟨by decide, by decide, trivial⟩⟩
    refine ⟨_, (pss_one (ps_ret (pe_make T.K_SizeSet (ok_SizeSetu__initu_ T) (hr.mono (by decide)) (by rfl) T.m_SizeSet T.b_SizeSetu__initu_ .nil Sta.passF (pa_cons (pe_lst pa_nil) (pa_cons pe_int (pa_cons pe_int (pa_cons (pe_lst (pa_cons pe_int pa_nil)) pa_nil))))))), ?_⟩
    try dsimp only [L2.cxOf, L2.Cx.nox, L2.Cx.wish]
    try rw [st_SizeSet_full_set]
    with_reducible refine Rd.ret (Rd.make (Rd.cons (Rd.lst (Rd.nil (Rd.laid (by walk_at "ll") ?_)))))
    intro p0 np0
    with_reducible refine Rd.cons (Rd.c (Rd.cons (Rd.c (Rd.cons (Rd.lst (Rd.cons (Rd.c (Rd.nil (Rd.laid (by walk_at "ll") ?_)))))))))
    intro p1 np1
    with_reducible refine Rd.nil ?_
    intro x1 dx1 nx1 ndx1 ne1
    refine ⟨_, _, _, _, _, _, rfl, L2.upd_same, .inl ⟨_, _, (⟨[], 1, 1, [0]⟩ : Rows), rfl, rfl, rfl, rfl, (show _ = some (HO.lst []) from (by walk_at "hp")), (show _ = some (HO.lst [V.int 0]) from (by walk_at "hp")), (by assumption), (by decide), (by decide), fun t1 H1 F1 ca1 sn1 => ?_⟩⟩
    refine ⟨rfl, ?_⟩
    exact k _ _ _ (by walk_at "frm") (by walk_at "nn") ⟨sn1.1, ca1, ok9, by decide, by decide⟩
/-! _law_source -/
theorem sc_l_source : FnScope ["_law_script", "_law_turn", "_law_cell", "_law_number", "_law_seed"] ["_law_script", "_law_turn"] (defScope s_l_source) := ⟨rfl, rfl, rfl, by decide +kernel, rfl, by decide +kernel, by decide +kernel⟩
abbrev sp_l_source (K : PySem.W.Frag) (A : Adr) : Sp := spSource K
theorem ok_l_source (T : Txt w K mg A) : FnOk P w K mg base CX0 1 A.f_l_source A.d_l_source ["_law_script", "_law_turn"] (sp_l_source K A) := by
  refine T.F_l_source.ok sc_l_source (fun vs H Q E h => ?_) (fun cdv Ar outer s H vs Q E hr h => ?_)
  · obtain ⟨a, ns, t, rfl, ha, ht, ht2, k⟩ := h
    rfl
  · obtain ⟨a, ns, t, rfl, ha, ht, ht2, k⟩ := h
    have hu := hu_of hr
    have t_i_SizeSet := T.i_SizeSet
    have t_kt_NoneType_SizeSet := T.kt_NoneType_SizeSet
    have t_kt_int_SizeSet := T.kt_int_SizeSet
    have t_kt_bool_SizeSet := T.kt_bool_SizeSet
    have t_kt_str_SizeSet := T.kt_str_SizeSet
    have t_kt_tuple_SizeSet := T.kt_tuple_SizeSet
    have t_kt_list_SizeSet := T.kt_list_SizeSet
    have t_kt_dict_SizeSet := T.kt_dict_SizeSet
    have t_kt_SizeSet_SizeSet := T.kt_SizeSet_SizeSet
    have t_nf_SizeSet_SizeSet := T.nf_SizeSet_SizeSet
    have t_nf_NoneType_SizeSet := T.nf_NoneType_SizeSet
    have t_nf_int_SizeSet := T.nf_int_SizeSet
    have t_nf_bool_SizeSet := T.nf_bool_SizeSet
    have t_nf_str_SizeSet := T.nf_str_SizeSet
    have t_nf_tuple_SizeSet := T.nf_tuple_SizeSet
    have t_nf_list_SizeSet := T.nf_list_SizeSet
    have t_nf_dict_SizeSet := T.nf_dict_SizeSet
    have t_kt_NoSet_in_NoForm := T.kt_NoSet_in_NoForm
    have t_kt_NoSet_in_NoCounter := T.kt_NoSet_in_NoCounter
    have t_kt_NoSet_in_NoScheme := T.kt_NoSet_in_NoScheme
    have t_kt_NoSet_in_NoSize := T.kt_NoSet_in_NoSize
    have t_kt_NoSet_in_NoRing := T.kt_NoSet_in_NoRing
    have t_kt_NoSet_in_Outside := T.kt_NoSet_in_Outside
    have t_kt_NoSet_in_NoRun := T.kt_NoSet_in_NoRun
    have t_kt_NoSet_in_NoSet := T.kt_NoSet_in_NoSet
    have t_kt_NoSet_in_TooLong := T.kt_NoSet_in_TooLong
    have t_kt_NoSet_in_VE := T.kt_NoSet_in_VE
    have t_xm_NoSet := T.xm_NoSet
    have t_kt_TooLong_in_NoForm := T.kt_TooLong_in_NoForm
    have t_kt_TooLong_in_NoCounter := T.kt_TooLong_in_NoCounter
    have t_kt_TooLong_in_NoScheme := T.kt_TooLong_in_NoScheme
    have t_kt_TooLong_in_NoSize := T.kt_TooLong_in_NoSize
    have t_kt_TooLong_in_NoRing := T.kt_TooLong_in_NoRing
    have t_kt_TooLong_in_Outside := T.kt_TooLong_in_Outside
    have t_kt_TooLong_in_NoRun := T.kt_TooLong_in_NoRun
    have t_kt_TooLong_in_NoSet := T.kt_TooLong_in_NoSet
    have t_kt_TooLong_in_TooLong := T.kt_TooLong_in_TooLong
    have t_kt_TooLong_in_VE := T.kt_TooLong_in_VE
    have t_xm_TooLong := T.xm_TooLong
    have t_k_SizeSet := T.k_SizeSet
    refine ⟨_, (pss_cons (ps_set (i := 2) sc_l_source.nd rfl (Or.inl rfl) pe_int)
      (pss_cons (ps_if (pt_cmpR op_lt (pv 1) (pe_callB call_len_seq (by rfl) T.n_len PySem.boot_len (pa_cons (pv 0) pa_nil)) (nomark _)) (pss_one (ps_set (i := 2) sc_l_source.nd rfl (Or.inl rfl) (pe_ix (Rd.ixLK rfl) (pv 0) (pv 1) (fun _ _ => rfl)))) pss_nil)
      (pss_cons (ps_set (i := 3) sc_l_source.nd rfl (Or.inl rfl) (pe_callB call_abs (by rfl) T.n_abs (by decide +kernel) (pa_cons (pv 2) pa_nil))) (pss_cons (ps_set (i := 4) sc_l_source.nd rfl (Or.inl rfl) (pe_op op_mod (pe_callTy call_int1 (by rfl) T.n_int (by decide +kernel) (pa_cons (pe_op op_add (pe_op op_add (pe_op op_mulW (pe_op op_mod (pe_callTy call_int1 (by rfl) T.n_int (by decide +kernel) (pa_cons (pv 3) pa_nil)) pe_int) pe_int) (pe_op op_mulW pe_int (pv 1))) pe_int) pa_nil)) pe_int)) (pss_cons (ps_if (pt_cmpR op_lt (pv 3) (pe_op op_pow pe_int pe_int) (nomark _)) (pss_one (ps_set (i := 3) sc_l_source.nd rfl (Or.inl rfl) pe_int)) pss_nil) (pss_one (ps_ret (pe_lst (pa_cons (pv 3) (pa_cons (pv 4) pa_nil)))))))))), ?_⟩
    try dsimp only [L2.cxOf, L2.Cx.nox, L2.Cx.wish]
    with_reducible refine Rd.seq (Rd.asg (Rd.c (Rd.name (Rd.seq (Rd.ifS (Rd.test (Rd.op (Rd.var (by walk_at "vr") (Rd.cB (Rd.cons (Rd.var (by walk_at "vr") ?_)))))))))))
    with_reducible refine Rd.nil (⟨_, _, rfl, (by walk_at "hpq"), (Rd.i0 (Rd.bl ?_))⟩)
    refine Rd.ite (fun h0 => ?_) (fun h0 => ?_)
    · try simp only [decide_eq_true_eq, Bool.not_eq_true', decide_eq_false_iff_not, Bool.not_eq_true, Bool.not_eq_eq_eq_not, Bool.not_true, Bool.not_false] at h0
      with_reducible refine Rd.asg (Rd.op (Rd.var (by walk_at "vr") (Rd.var (by walk_at "vr") ?_)))
      obtain ⟨z, hz⟩ := atI_map ht (by simpa using h0)
      refine Rd.ixL (by walk_at "hpl") hz ?_
      with_reducible refine Rd.name (Rd.seq (Rd.asg (Rd.cB (Rd.cons (Rd.var (by walk_at "vr") (Rd.nil (⟨_, rfl, (Rd.name (Rd.seq (Rd.asg (Rd.op ?_))))⟩)))))))
      with_reducible refine Rd.cB (Rd.cons (Rd.op (Rd.op (Rd.op (Rd.op (Rd.cB (Rd.cons (Rd.var (by walk_at "vr") (Rd.nil ((.inl ⟨_, rfl, (Rd.c ?_)⟩)))))))))))
      with_reducible refine Rd.iC (by walk_at "sc") (Rd.c (Rd.iC (by walk_at "scm") (Rd.op (Rd.c (Rd.var (by walk_at "vr") (Rd.iC (by walk_at "scm") (Rd.i0 (Rd.c (Rd.i0 (Rd.nil ((.inl ⟨_, rfl, ?_⟩))))))))))))
      with_reducible refine Rd.c (Rd.iC (by walk_at "sc") (Rd.name (Rd.seq (Rd.ifS (Rd.test (Rd.op (Rd.var (by walk_at "vr") (Rd.op (Rd.c (Rd.c (Rd.iC (by walk_at "scp") ?_)))))))))))
      with_reducible refine Rd.i0 (Rd.bl ?_)
      refine Rd.ite (fun h1 => ?_) (fun h1 => ?_)
      · try simp only [decide_eq_true_eq, Bool.not_eq_true', decide_eq_false_iff_not, Bool.not_eq_true, Bool.not_eq_eq_eq_not, Bool.not_true, Bool.not_false] at h1
        with_reducible refine Rd.asg (Rd.c (Rd.name (Rd.ret (Rd.lst (Rd.cons (Rd.var (by walk_at "vr") (Rd.cons (Rd.var (by walk_at "vr") (Rd.nil (Rd.laid (by walk_at "ll") ?_))))))))))
        intro p0 np0
        exact k _ _ np0 ⟨_, _, rfl, (by walk_at "sc"), (by walk_at "sc"), (by walk_at "sc")⟩
      · try simp only [decide_eq_true_eq, Bool.not_eq_true', decide_eq_false_iff_not, Bool.not_eq_true, Bool.not_eq_eq_eq_not, Bool.not_true, Bool.not_false, Int.not_lt, Int.not_le, Decidable.not_not] at h1
        with_reducible refine Rd.next (Rd.ret (Rd.lst (Rd.cons (Rd.var (by walk_at "vr") (Rd.cons (Rd.var (by walk_at "vr") (Rd.nil (Rd.laid (by walk_at "ll") ?_))))))))
        intro p0 np0
        exact k _ _ np0 ⟨_, _, rfl, (by walk_at "sc"), (by walk_at "sc"), (by walk_at "sc")⟩
    · try simp only [decide_eq_true_eq, Bool.not_eq_true', decide_eq_false_iff_not, Bool.not_eq_true, Bool.not_eq_eq_eq_not, Bool.not_true, Bool.not_false, Int.not_lt, Int.not_le, Decidable.not_not] at h0
      with_reducible refine Rd.next (Rd.seq (Rd.asg (Rd.cB (Rd.cons (Rd.var (by walk_at "vr") (Rd.nil (⟨_, rfl, (Rd.name (Rd.seq (Rd.asg (Rd.op ?_))))⟩)))))))
      with_reducible refine Rd.cB (Rd.cons (Rd.op (Rd.op (Rd.op (Rd.op (Rd.cB (Rd.cons (Rd.var (by walk_at "vr") (Rd.nil ((.inl ⟨_, rfl, (Rd.c ?_)⟩)))))))))))
      with_reducible refine Rd.iC (by walk_at "sc") (Rd.c (Rd.iC (by walk_at "scm") (Rd.op (Rd.c (Rd.var (by walk_at "vr") (Rd.iC (by walk_at "scm") (Rd.i0 (Rd.c (Rd.i0 (Rd.nil ((.inl ⟨_, rfl, ?_⟩))))))))))))
      with_reducible refine Rd.c (Rd.iC (by walk_at "sc") (Rd.name (Rd.seq (Rd.ifS (Rd.test (Rd.op (Rd.var (by walk_at "vr") (Rd.op (Rd.c (Rd.c (Rd.iC (by walk_at "scp") ?_)))))))))))
      with_reducible refine Rd.i0 (Rd.bl ?_)
      refine Rd.ite (fun h1 => ?_) (fun h1 => ?_)
      · try simp only [decide_eq_true_eq, Bool.not_eq_true', decide_eq_false_iff_not, Bool.not_eq_true, Bool.not_eq_eq_eq_not, Bool.not_true, Bool.not_false] at h1
        with_reducible refine Rd.asg (Rd.c (Rd.name (Rd.ret (Rd.lst (Rd.cons (Rd.var (by walk_at "vr") (Rd.cons (Rd.var (by walk_at "vr") (Rd.nil (Rd.laid (by walk_at "ll") ?_))))))))))
        intro p0 np0
        exact k _ _ np0 ⟨_, _, rfl, (by walk_at "sc"), (by walk_at "sc"), (by walk_at "sc")⟩
      · try simp only [decide_eq_true_eq, Bool.not_eq_true', decide_eq_false_iff_not, Bool.not_eq_true, Bool.not_eq_eq_eq_not, Bool.not_true, Bool.not_false, Int.not_lt, Int.not_le, Decidable.not_not] at h1
        with_reducible refine Rd.next (Rd.ret (Rd.lst (Rd.cons (Rd.var (by walk_at "vr") (Rd.cons (Rd.var (by walk_at "vr") (Rd.nil (Rd.laid (by walk_at "ll") ?_))))))))
        intro p0 np0
        exact k _ _ np0 ⟨_, _, rfl, (by walk_at "sc"), (by walk_at "sc"), (by walk_at "sc")⟩
/-! _law_draw -/
theorem sc_l_draw : FnScope ["_law_source_here", "_law_amount", "_law_digit", "_law_found"] ["_law_source_here", "_law_amount"] (defScope s_l_draw) := ⟨rfl, rfl, rfl, by decide +kernel, rfl, by decide +kernel, by decide +kernel⟩
abbrev sp_l_draw (K : PySem.W.Frag) (A : Adr) : Sp := spDraw
theorem ok_l_draw (T : Txt w K mg A) : FnOk P w K mg base CX0 1 A.f_l_draw A.d_l_draw ["_law_source_here", "_law_amount"] (sp_l_draw K A) := by
  refine T.F_l_draw.ok sc_l_draw (fun vs H Q E h => ?_) (fun cdv Ar outer s H vs Q E hr h => ?_)
  · obtain ⟨a, o, m, rfl, ha, ho, hm, hm2, k⟩ := h
    rfl
  · obtain ⟨a, o, m, rfl, ha, ho, hm, hm2, k⟩ := h
    have hu := hu_of hr
    have t_i_SizeSet := T.i_SizeSet
    have t_kt_NoneType_SizeSet := T.kt_NoneType_SizeSet
    have t_kt_int_SizeSet := T.kt_int_SizeSet
    have t_kt_bool_SizeSet := T.kt_bool_SizeSet
    have t_kt_str_SizeSet := T.kt_str_SizeSet
    have t_kt_tuple_SizeSet := T.kt_tuple_SizeSet
    have t_kt_list_SizeSet := T.kt_list_SizeSet
    have t_kt_dict_SizeSet := T.kt_dict_SizeSet
    have t_kt_SizeSet_SizeSet := T.kt_SizeSet_SizeSet
    have t_nf_SizeSet_SizeSet := T.nf_SizeSet_SizeSet
    have t_nf_NoneType_SizeSet := T.nf_NoneType_SizeSet
    have t_nf_int_SizeSet := T.nf_int_SizeSet
    have t_nf_bool_SizeSet := T.nf_bool_SizeSet
    have t_nf_str_SizeSet := T.nf_str_SizeSet
    have t_nf_tuple_SizeSet := T.nf_tuple_SizeSet
    have t_nf_list_SizeSet := T.nf_list_SizeSet
    have t_nf_dict_SizeSet := T.nf_dict_SizeSet
    have t_kt_NoSet_in_NoForm := T.kt_NoSet_in_NoForm
    have t_kt_NoSet_in_NoCounter := T.kt_NoSet_in_NoCounter
    have t_kt_NoSet_in_NoScheme := T.kt_NoSet_in_NoScheme
    have t_kt_NoSet_in_NoSize := T.kt_NoSet_in_NoSize
    have t_kt_NoSet_in_NoRing := T.kt_NoSet_in_NoRing
    have t_kt_NoSet_in_Outside := T.kt_NoSet_in_Outside
    have t_kt_NoSet_in_NoRun := T.kt_NoSet_in_NoRun
    have t_kt_NoSet_in_NoSet := T.kt_NoSet_in_NoSet
    have t_kt_NoSet_in_TooLong := T.kt_NoSet_in_TooLong
    have t_kt_NoSet_in_VE := T.kt_NoSet_in_VE
    have t_xm_NoSet := T.xm_NoSet
    have t_kt_TooLong_in_NoForm := T.kt_TooLong_in_NoForm
    have t_kt_TooLong_in_NoCounter := T.kt_TooLong_in_NoCounter
    have t_kt_TooLong_in_NoScheme := T.kt_TooLong_in_NoScheme
    have t_kt_TooLong_in_NoSize := T.kt_TooLong_in_NoSize
    have t_kt_TooLong_in_NoRing := T.kt_TooLong_in_NoRing
    have t_kt_TooLong_in_Outside := T.kt_TooLong_in_Outside
    have t_kt_TooLong_in_NoRun := T.kt_TooLong_in_NoRun
    have t_kt_TooLong_in_NoSet := T.kt_TooLong_in_NoSet
    have t_kt_TooLong_in_TooLong := T.kt_TooLong_in_TooLong
    have t_kt_TooLong_in_VE := T.kt_TooLong_in_VE
    have t_xm_TooLong := T.xm_TooLong
    have t_k_SizeSet := T.k_SizeSet
    obtain ⟨x, y, rfl, hx, hy, hy2⟩ := ho
    have e1 := Int.emod_nonneg x (show m ≠ 0 by first | omega | decide)
    have e2 := Int.emod_lt_of_pos x hm
    have e3 := Int.ediv_nonneg hx (show 0 ≤ m by first | omega | decide)
    refine ⟨_, (pss_cons (ps_if (pt_cmpR op_gt (pe_ix (Rd.ixLK rfl) (pv 0) pe_int (fun _ _ => rfl)) pe_int (nomark _)) (pss_cons (ps_set (i := 2) sc_l_draw.nd rfl (Or.inl rfl) (pe_op op_mod (pe_callTy call_int1 (by rfl) T.n_int (by decide +kernel) (pa_cons (pe_ix (Rd.ixLK rfl) (pv 0) pe_int (fun _ _ => rfl)) pa_nil)) (pv 1)))
      (pss_cons (ps_asg (pe_op op_fdivW (pe_ix (Rd.ixLK rfl) (pv 0) pe_int (fun _ _ => rfl)) (pv 1)) (pg_sub (pv 0) pe_int set_list))
      (pss_one (ps_ret (pv 2))))) pss_nil)
      (pss_cons (ps_asg (pe_op op_mod (pe_callTy call_int1 (by rfl) T.n_int (by decide +kernel) (pa_cons (pe_op op_add (pe_op op_mulW (pe_ix (Rd.ixLK rfl) (pv 0) pe_int (fun _ _ => rfl)) pe_int) pe_int) pa_nil)) pe_int) (pg_sub (pv 0) pe_int set_list))
      (pss_cons (ps_set (i := 3) sc_l_draw.nd rfl (Or.inl rfl) (pe_op op_fdivW (pe_op op_mod (pe_callTy call_int1 (by rfl) T.n_int (by decide +kernel) (pa_cons (pe_op op_mulW (pe_ix (Rd.ixLK rfl) (pv 0) pe_int (fun _ _ => rfl)) (pe_ix (Rd.ixLK rfl) (pv 0) pe_int (fun _ _ => rfl))) pa_nil)) pe_int) pe_int))
      (pss_cons (ps_if (pt_cmpR op_gt (pv 1) (pe_op op_pow pe_int pe_int) (nomark _)) (pss_cons (ps_asg (pe_op op_mod (pe_callTy call_int1 (by rfl) T.n_int (by decide +kernel) (pa_cons (pe_op op_add (pe_op op_mulW (pe_ix (Rd.ixLK rfl) (pv 0) pe_int (fun _ _ => rfl)) pe_int) pe_int) pa_nil)) pe_int) (pg_sub (pv 0) pe_int set_list))
      (pss_one (ps_set (i := 3) sc_l_draw.nd rfl (Or.inl rfl) (pe_op op_add (pe_op op_mulW (pv 3) pe_int) (pe_op op_fdivW (pe_op op_mod (pe_callTy call_int1 (by rfl) T.n_int (by decide +kernel) (pa_cons (pe_op op_mulW (pe_ix (Rd.ixLK rfl) (pv 0) pe_int (fun _ _ => rfl)) (pe_ix (Rd.ixLK rfl) (pv 0) pe_int (fun _ _ => rfl))) pa_nil)) pe_int) pe_int))))) pss_nil)
      (pss_one (ps_ret (pe_op op_mod (pe_callTy call_int1 (by rfl) T.n_int (by decide +kernel) (pa_cons (pv 3) pa_nil)) (pv 1)))))))), ?_⟩
    try dsimp only [L2.cxOf, L2.Cx.nox, L2.Cx.wish]
    with_reducible refine Rd.seq (Rd.ifS (Rd.test (Rd.op (Rd.op (Rd.var (by walk_at "vr") (Rd.c (Rd.ixL (by walk_at "hpl") (by walk_at "vr") (Rd.c (Rd.i0 (Rd.bl ?_))))))))))
    refine Rd.ite (fun h0 => ?_) (fun h0 => ?_)
    · try simp only [decide_eq_true_eq, Bool.not_eq_true', decide_eq_false_iff_not, Bool.not_eq_true, Bool.not_eq_eq_eq_not, Bool.not_true, Bool.not_false] at h0
      with_reducible refine Rd.seq (Rd.asg (Rd.op (Rd.cB (Rd.cons (Rd.op (Rd.var (by walk_at "vr") (Rd.c (Rd.ixL (by walk_at "hpl") (by walk_at "vr") (Rd.nil ((.inl ⟨_, rfl, (Rd.var (by walk_at "vr") ?_)⟩)))))))))))
      with_reducible refine Rd.iC (by walk_at "sc") (Rd.name (Rd.seq (Rd.asg (Rd.op (Rd.op (Rd.var (by walk_at "vr") (Rd.c (Rd.ixL (by walk_at "hpl") (by walk_at "vr") (Rd.var (by walk_at "vr") (Rd.iC (by walk_at "scd") (Rd.sub ?_)))))))))))
      with_reducible refine Rd.var (by walk_at "vr") (Rd.c (Rd.setL (by walk_at "hp") (by walk_at "ixn") (Rd.ret (Rd.var (by walk_at "vr") ?_))))
      exact k _ _ (by walk_at "sc") (by walk_at "sc") ⟨_, _, rfl, (by walk_at "sc"), (by walk_at "sc"), (by walk_at "sc")⟩
    · try simp only [decide_eq_true_eq, Bool.not_eq_true', decide_eq_false_iff_not, Bool.not_eq_true, Bool.not_eq_eq_eq_not, Bool.not_true, Bool.not_false, Int.not_lt, Int.not_le, Decidable.not_not] at h0
      with_reducible refine Rd.next (Rd.seq (Rd.asg (Rd.op (Rd.cB (Rd.cons (Rd.op (Rd.op (Rd.op (Rd.var (by walk_at "vr") (Rd.c (Rd.ixL (by walk_at "hpl") (by walk_at "vr") ?_)))))))))))
      with_reducible refine Rd.c (Rd.iC (by walk_at "scm") (Rd.c (Rd.i0 (Rd.nil ((.inl ⟨_, rfl, (Rd.c (Rd.iC (by walk_at "sc") (Rd.sub (Rd.var (by walk_at "vr") (Rd.c (Rd.setL (by walk_at "hp") (by walk_at "ixn") ?_))))))⟩))))))
      with_reducible refine Rd.seq (Rd.asg (Rd.op (Rd.op (Rd.cB (Rd.cons (Rd.op (Rd.op (Rd.var (by walk_at "vr") (Rd.c (Rd.ixL (by walk_at "hpl") (by walk_at "vr") (Rd.op ?_)))))))))))
      with_reducible refine Rd.var (by walk_at "vr") (Rd.c (Rd.ixL (by walk_at "hpl") (by walk_at "vr") (Rd.iC (by walk_at "scm") (Rd.nil ((.inl ⟨_, rfl, (Rd.c (Rd.iC (by walk_at "sc") (Rd.c (Rd.iC (by walk_at "scd") (Rd.name (Rd.seq ?_))))))⟩))))))
      with_reducible refine Rd.ifS (Rd.test (Rd.op (Rd.var (by walk_at "vr") (Rd.op (Rd.c (Rd.c (Rd.iC (by walk_at "scp") (Rd.i0 (Rd.bl ?_)))))))))
      refine Rd.ite (fun h1 => ?_) (fun h1 => ?_)
      · try simp only [decide_eq_true_eq, Bool.not_eq_true', decide_eq_false_iff_not, Bool.not_eq_true, Bool.not_eq_eq_eq_not, Bool.not_true, Bool.not_false] at h1
        with_reducible refine Rd.seq (Rd.asg (Rd.op (Rd.cB (Rd.cons (Rd.op (Rd.op (Rd.op (Rd.var (by walk_at "vr") (Rd.c (Rd.ixL (by walk_at "hpl") (by walk_at "vr") (Rd.c ?_)))))))))))
        with_reducible refine Rd.iC (by walk_at "scm") (Rd.c (Rd.i0 (Rd.nil ((.inl ⟨_, rfl, (Rd.c (Rd.iC (by walk_at "sc") (Rd.sub (Rd.var (by walk_at "vr") (Rd.c (Rd.setL (by walk_at "hp") (by walk_at "ixn") (Rd.asg ?_)))))))⟩)))))
        with_reducible refine Rd.op (Rd.op (Rd.var (by walk_at "vr") (Rd.c (Rd.iC (by walk_at "scm") (Rd.op (Rd.op (Rd.cB (Rd.cons (Rd.op (Rd.op (Rd.var (by walk_at "vr") ?_)))))))))))
        with_reducible refine Rd.c (Rd.ixL (by walk_at "hpl") (by walk_at "vr") (Rd.op (Rd.var (by walk_at "vr") (Rd.c (Rd.ixL (by walk_at "hpl") (by walk_at "vr") (Rd.iC (by walk_at "scm") (Rd.nil ((.inl ⟨_, rfl, (Rd.c (Rd.iC (by walk_at "sc") (Rd.c ?_)))⟩)))))))))
        with_reducible refine Rd.iC (by walk_at "scd") (Rd.i0 (Rd.name (Rd.ret (Rd.op (Rd.cB (Rd.cons (Rd.var (by walk_at "vr") (Rd.nil ((.inl ⟨_, rfl, (Rd.var (by walk_at "vr") (Rd.iC (by walk_at "sc") ?_))⟩))))))))))
        (repeat rw [L2.upd_upd])
        exact k _ _ (Int.emod_nonneg _ (by first | omega | decide)) (Int.emod_lt_of_pos _ hm) ⟨_, _, rfl, hx, (by first | omega | decide), (by first | omega | decide)⟩
      · try simp only [decide_eq_true_eq, Bool.not_eq_true', decide_eq_false_iff_not, Bool.not_eq_true, Bool.not_eq_eq_eq_not, Bool.not_true, Bool.not_false, Int.not_lt, Int.not_le, Decidable.not_not] at h1
        with_reducible refine Rd.next (Rd.ret (Rd.op (Rd.cB (Rd.cons (Rd.var (by walk_at "vr") (Rd.nil ((.inl ⟨_, rfl, (Rd.var (by walk_at "vr") (Rd.iC (by walk_at "sc") ?_))⟩))))))))
        (repeat rw [L2.upd_upd])
        exact k _ _ (Int.emod_nonneg _ (by first | omega | decide)) (Int.emod_lt_of_pos _ hm) ⟨_, _, rfl, hx, (by first | omega | decide), (by first | omega | decide)⟩
/-! _law_pick -/
theorem sc_l_pick : FnScope ["_law_source_here", "_law_items"] ["_law_source_here", "_law_items"] (defScope s_l_pick) := ⟨rfl, rfl, rfl, by decide +kernel, rfl, by decide +kernel, by decide +kernel⟩
abbrev sp_l_pick (K : PySem.W.Frag) (A : Adr) : Sp := fun vs H Q _ => ∃ (a l : Addr) (o : HO) (xs : List V), vs = [.ref a, .ref l] ∧ H a = some o ∧ SrcO o ∧ H l = some (.lst xs) ∧ 0 < xs.length ∧ xs.length ≤ 100 ∧ l ≠ a ∧ ∀ (v : V) (o' : HO) (H' : Hp), v ∈ xs → Frm a H H' → H' a = some o' → SrcO o' → Q v H'
theorem ok_l_pick (T : Txt w K mg A) : FnOk P w K mg base CX0 2 A.f_l_pick A.d_l_pick ["_law_source_here", "_law_items"] (sp_l_pick K A) := by
  refine T.F_l_pick.ok sc_l_pick (fun vs H Q E h => ?_) (fun cdv Ar outer s H vs Q E hr h => ?_)
  · obtain ⟨a, l, o, xs, rfl, ha, ho, hl, h0, h1, hne, k⟩ := h
    rfl
  · obtain ⟨a, l, o, xs, rfl, ha, ho, hl, h0, h1, hne, k⟩ := h
    have hu := hu_of hr
    have t_i_SizeSet := T.i_SizeSet
    have t_kt_NoneType_SizeSet := T.kt_NoneType_SizeSet
    have t_kt_int_SizeSet := T.kt_int_SizeSet
    have t_kt_bool_SizeSet := T.kt_bool_SizeSet
    have t_kt_str_SizeSet := T.kt_str_SizeSet
    have t_kt_tuple_SizeSet := T.kt_tuple_SizeSet
    have t_kt_list_SizeSet := T.kt_list_SizeSet
    have t_kt_dict_SizeSet := T.kt_dict_SizeSet
    have t_kt_SizeSet_SizeSet := T.kt_SizeSet_SizeSet
    have t_nf_SizeSet_SizeSet := T.nf_SizeSet_SizeSet
    have t_nf_NoneType_SizeSet := T.nf_NoneType_SizeSet
    have t_nf_int_SizeSet := T.nf_int_SizeSet
    have t_nf_bool_SizeSet := T.nf_bool_SizeSet
    have t_nf_str_SizeSet := T.nf_str_SizeSet
    have t_nf_tuple_SizeSet := T.nf_tuple_SizeSet
    have t_nf_list_SizeSet := T.nf_list_SizeSet
    have t_nf_dict_SizeSet := T.nf_dict_SizeSet
    have t_kt_NoSet_in_NoForm := T.kt_NoSet_in_NoForm
    have t_kt_NoSet_in_NoCounter := T.kt_NoSet_in_NoCounter
    have t_kt_NoSet_in_NoScheme := T.kt_NoSet_in_NoScheme
    have t_kt_NoSet_in_NoSize := T.kt_NoSet_in_NoSize
    have t_kt_NoSet_in_NoRing := T.kt_NoSet_in_NoRing
    have t_kt_NoSet_in_Outside := T.kt_NoSet_in_Outside
    have t_kt_NoSet_in_NoRun := T.kt_NoSet_in_NoRun
    have t_kt_NoSet_in_NoSet := T.kt_NoSet_in_NoSet
    have t_kt_NoSet_in_TooLong := T.kt_NoSet_in_TooLong
    have t_kt_NoSet_in_VE := T.kt_NoSet_in_VE
    have t_xm_NoSet := T.xm_NoSet
    have t_kt_TooLong_in_NoForm := T.kt_TooLong_in_NoForm
    have t_kt_TooLong_in_NoCounter := T.kt_TooLong_in_NoCounter
    have t_kt_TooLong_in_NoScheme := T.kt_TooLong_in_NoScheme
    have t_kt_TooLong_in_NoSize := T.kt_TooLong_in_NoSize
    have t_kt_TooLong_in_NoRing := T.kt_TooLong_in_NoRing
    have t_kt_TooLong_in_Outside := T.kt_TooLong_in_Outside
    have t_kt_TooLong_in_NoRun := T.kt_TooLong_in_NoRun
    have t_kt_TooLong_in_NoSet := T.kt_TooLong_in_NoSet
    have t_kt_TooLong_in_TooLong := T.kt_TooLong_in_TooLong
    have t_kt_TooLong_in_VE := T.kt_TooLong_in_VE
    have t_xm_TooLong := T.xm_TooLong
    have t_k_SizeSet := T.k_SizeSet
    refine ⟨_, (pss_one (ps_ret (pe_ix (Rd.ixLK rfl) (pv 1) (pe_call (ok_l_draw T) (hr.mono (by decide)) (by rfl) T.m_l_draw T.F_l_draw.kp T.b_l_draw .nil pass0 (pa_cons (pv 0) (pa_cons (pe_callB call_len_seq (by rfl) T.n_len PySem.boot_len (pa_cons (pv 1) pa_nil)) pa_nil))) (fun _ _ => rfl)))), ?_⟩
    try dsimp only [L2.cxOf, L2.Cx.nox, L2.Cx.wish]
    with_reducible refine Rd.ret (Rd.op (Rd.var (by walk_at "vr") (Rd.call (Rd.cons (Rd.var (by walk_at "vr") (Rd.cons (Rd.cB (Rd.cons (Rd.var (by walk_at "vr") (Rd.nil (⟨_, _, rfl, (by walk_at "hpq"), ?_⟩)))))))))))
    with_reducible refine Rd.nil ?_
    refine ⟨_, _, _, rfl, (by walk_at "hp"), (by walk_at "sc"), (by walk_at "sc"), (by walk_at "sc"), fun d1 o1 d1a d1b s1 => ?_⟩
    refine Rd.pickAny (by walk_at "hpl") d1a d1b (fun v hv => ?_)
    exact k _ _ _ hv (by walk_at "frm") (by walk_at "hp") (by assumption)
/-! _law_told -/
theorem sc_l_told : FnScope ["_law_e", "_law_others"] ["_law_e"] (defScope s_l_told) := ⟨rfl, rfl, rfl, by decide +kernel, rfl, by decide +kernel, by decide +kernel⟩
theorem st_l_told {v0 : V} : L2.start ["_law_e", "_law_others"] [v0] = [some v0, none] := rfl
abbrev sp_l_told (K : PySem.W.Frag) (A : Adr) (p : Addr × Obj) : Sp := fun vs H Q _ => ∃ (D : Addr) (nm : Str), vs = [.ref p.1] ∧ Zc (.ref D) none p.2 ∧ (∃ vs, p.2.data = .fields vs) ∧ Due A D nm ∧ ∀ H', Same H H' → Q (.str nm) H'
theorem ok_l_told (T : Txt w K mg A) : Er.FnE P w K mg base 1 A.f_l_told A.d_l_told ["_law_e"] (sp_l_told K A) := by
  refine Er.okE T.F_l_told sc_l_told (fun p vs H Q E h => ?_) (fun cdv Ar outer s H vs Q p hr h => ?_)
  · obtain ⟨D, nm, rfl, hz, hf, hd, k⟩ := h
    rfl
  · obtain ⟨D, nm, rfl, hz, hf, hd, k⟩ := h
    have t_i_SizeSet := T.i_SizeSet
    have t_kt_NoneType_SizeSet := T.kt_NoneType_SizeSet
    have t_kt_int_SizeSet := T.kt_int_SizeSet
    have t_kt_bool_SizeSet := T.kt_bool_SizeSet
    have t_kt_str_SizeSet := T.kt_str_SizeSet
    have t_kt_tuple_SizeSet := T.kt_tuple_SizeSet
    have t_kt_list_SizeSet := T.kt_list_SizeSet
    have t_kt_dict_SizeSet := T.kt_dict_SizeSet
    have t_kt_SizeSet_SizeSet := T.kt_SizeSet_SizeSet
    have t_nf_SizeSet_SizeSet := T.nf_SizeSet_SizeSet
    have t_nf_NoneType_SizeSet := T.nf_NoneType_SizeSet
    have t_nf_int_SizeSet := T.nf_int_SizeSet
    have t_nf_bool_SizeSet := T.nf_bool_SizeSet
    have t_nf_str_SizeSet := T.nf_str_SizeSet
    have t_nf_tuple_SizeSet := T.nf_tuple_SizeSet
    have t_nf_list_SizeSet := T.nf_list_SizeSet
    have t_nf_dict_SizeSet := T.nf_dict_SizeSet
    have t_kt_NoSet_in_NoForm := T.kt_NoSet_in_NoForm
    have t_kt_NoSet_in_NoCounter := T.kt_NoSet_in_NoCounter
    have t_kt_NoSet_in_NoScheme := T.kt_NoSet_in_NoScheme
    have t_kt_NoSet_in_NoSize := T.kt_NoSet_in_NoSize
    have t_kt_NoSet_in_NoRing := T.kt_NoSet_in_NoRing
    have t_kt_NoSet_in_Outside := T.kt_NoSet_in_Outside
    have t_kt_NoSet_in_NoRun := T.kt_NoSet_in_NoRun
    have t_kt_NoSet_in_NoSet := T.kt_NoSet_in_NoSet
    have t_kt_NoSet_in_TooLong := T.kt_NoSet_in_TooLong
    have t_kt_NoSet_in_VE := T.kt_NoSet_in_VE
    have t_xm_NoSet := T.xm_NoSet
    have t_kt_TooLong_in_NoForm := T.kt_TooLong_in_NoForm
    have t_kt_TooLong_in_NoCounter := T.kt_TooLong_in_NoCounter
    have t_kt_TooLong_in_NoScheme := T.kt_TooLong_in_NoScheme
    have t_kt_TooLong_in_NoSize := T.kt_TooLong_in_NoSize
    have t_kt_TooLong_in_NoRing := T.kt_TooLong_in_NoRing
    have t_kt_TooLong_in_Outside := T.kt_TooLong_in_Outside
    have t_kt_TooLong_in_NoRun := T.kt_TooLong_in_NoRun
    have t_kt_TooLong_in_NoSet := T.kt_TooLong_in_NoSet
    have t_kt_TooLong_in_TooLong := T.kt_TooLong_in_TooLong
    have t_kt_TooLong_in_VE := T.kt_TooLong_in_VE
    have t_xm_TooLong := T.xm_TooLong
    rcases hd with ⟨rfl, rfl⟩ | ⟨rfl, rfl⟩
    · skip
      refine ⟨_, (pss_cons (ps_set (i := 1) sc_l_told.nd rfl (Or.inl rfl) (pe_callB (Er.call_isPT (K := K) (p := p) rfl List.mem_cons_self) (by rfl) T.n_isinstance (by decide +kernel) (pa_cons (pv 0) (pa_cons (pe_tup (pa_cons (pe_glob (v := .ref A.c_NoForm) rfl T.m_NoForm rfl) (pa_cons (pe_glob (v := .ref A.c_NoCounter) rfl T.m_NoCounter rfl) (pa_cons (pe_glob (v := .ref A.c_NoScheme) rfl T.m_NoScheme rfl) (pa_cons (pe_glob (v := .ref A.c_NoSize) rfl T.m_NoSize rfl) (pa_cons (pe_glob (v := .ref A.c_NoRing) rfl T.m_NoRing rfl) (pa_cons (pe_glob (v := .ref A.c_Outside) rfl T.m_Outside rfl) (pa_cons (pe_glob (v := .ref A.c_NoRun) rfl T.m_NoRun rfl) pa_nil)))))))) pa_nil))))
      (pss_cons (ps_if (PW.pt (pw_or (pt_val (pv 1)) (pw_or (pt_not (pt_val (pe_callB (Er.call_isP (K := K) (p := p) rfl List.mem_cons_self) (by rfl) T.n_isinstance (by decide +kernel) (pa_cons (pv 0) (pa_cons (pe_bltn (v := .ty "ValueError") (u := .type "ValueError") (by rfl) T.n_ValueError (by decide +kernel) rfl) pa_nil))))) (pw_or1 (pt_cmpR op_eq (pe_callB (Er.call_isP (K := K) (p := p) rfl List.mem_cons_self) (by rfl) T.n_isinstance (by decide +kernel) (pa_cons (pv 0) (pa_cons (pe_glob (v := .ref A.c_NoSet) rfl T.m_NoSet rfl) pa_nil))) (pe_callB (Er.call_isP (K := K) (p := p) rfl List.mem_cons_self) (by rfl) T.n_isinstance (by decide +kernel) (pa_cons (pv 0) (pa_cons (pe_glob (v := .ref A.c_TooLong) rfl T.m_TooLong rfl) pa_nil))) (nomark _)))))) (pss_one ps_never) pss_nil)
      (pss_one (ps_ret (pe_ix (Rd.ixLK rfl) (pe_lst (pa_cons pe_str (pa_cons pe_str pa_nil))) (pe_callTy call_int1 (by rfl) T.n_int (by decide +kernel) (pa_cons (pe_callB (Er.call_isP (K := K) (p := p) rfl List.mem_cons_self) (by rfl) T.n_isinstance (by decide +kernel) (pa_cons (pv 0) (pa_cons (pe_glob (v := .ref A.c_TooLong) rfl T.m_TooLong rfl) pa_nil))) pa_nil)) (fun _ _ => rfl)))))), ?_⟩
      try dsimp only [L2H.cxH, L2.cxOf, L2.Cx.nox, L2.Cx.wish]
      with_reducible refine Rd.seq (Rd.asg (Rd.cB (Rd.cons (Rd.var (by walk_at "vr") (Rd.cons (Rd.tup (Rd.cons (Rd.c (Rd.cons (Rd.c (Rd.cons ?_)))))))))))
      with_reducible refine Rd.c (Rd.cons (Rd.c (Rd.cons (Rd.c (Rd.cons (Rd.c (Rd.cons (Rd.c (Rd.nil (Rd.laid (by walk_at "ll") ?_))))))))))
      intro p0 np0
      with_reducible refine Rd.nil ?_
      refine ⟨_, _, _, _, _, rfl, (by walk_at "hp"), (.cons (.own _) (.cons (.own _) (.cons (.own _) (.cons (.own _) (.cons (.own _) (.cons (.own _) (.cons (.own _) .nil))))))), hz, hf, T.ec_NoSet, Er.any7 (by walk_at "kit") (by walk_at "kit") (by walk_at "kit") (by walk_at "kit") (by walk_at "kit") (by walk_at "kit") (by walk_at "kit"), ?_⟩
      with_reducible refine Rd.name ?_
      try dsimp only [Int.reduceToNat, List.set]
      with_reducible refine Rd.seq (Rd.ifS (Rd.or (Rd.tb (Rd.var (by walk_at "vr") (Rd.bl (Rd.iteF (by walk_at "bF") (Rd.or (Rd.not (Rd.tb (Rd.cB (Rd.cons ?_)))))))))))
      with_reducible refine Rd.var (by walk_at "vr") (Rd.cons (Rd.c (Rd.nil ?_)))
      refine ⟨_, _, _, _, rfl, hz, hf, T.ec_NoSet, (by walk_at "clsv"), (by walk_at "kit"), ?_⟩
      with_reducible refine Rd.bl (Rd.iteF (by walk_at "bF") (Rd.test (Rd.op (Rd.cB (Rd.cons (Rd.var (by walk_at "vr") (Rd.cons (Rd.c (Rd.nil ?_)))))))))
      refine ⟨_, _, _, _, rfl, hz, hf, T.ec_NoSet, (by walk_at "clsv"), (by walk_at "kit"), ?_⟩
      with_reducible refine Rd.cB (Rd.cons (Rd.var (by walk_at "vr") (Rd.cons (Rd.c (Rd.nil ?_)))))
      refine ⟨_, _, _, _, rfl, hz, hf, T.ec_NoSet, (by walk_at "clsv"), (by walk_at "kit"), ?_⟩
      with_reducible refine Rd.eqS (by walk_at "vr") (Rd.bl (Rd.iteF (by walk_at "bF") (Rd.next (Rd.ret (Rd.op (Rd.lst (Rd.cons (Rd.c (Rd.cons (Rd.c (Rd.nil ?_)))))))))))
      with_reducible refine Rd.laid (by walk_at "ll") ?_
      intro p1 np1
      with_reducible refine Rd.cB (Rd.cons (Rd.cB (Rd.cons (Rd.var (by walk_at "vr") (Rd.cons (Rd.c (Rd.nil ?_)))))))
      refine ⟨_, _, _, _, rfl, hz, hf, T.ec_NoSet, (by walk_at "clsv"), (by walk_at "kit"), ?_⟩
      with_reducible refine Rd.nil ((.inr ⟨_, rfl, ?_⟩))
      refine Rd.ixL (v := .str "set") (by walk_at "hpl") (show atI _ ((0 : Nat) : Int) = _ from atI_nat rfl) ?_
      exact k _ (by walk_at "frm")
    · skip
      refine ⟨_, (pss_cons (ps_set (i := 1) sc_l_told.nd rfl (Or.inl rfl) (pe_callB (Er.call_isPT (K := K) (p := p) rfl List.mem_cons_self) (by rfl) T.n_isinstance (by decide +kernel) (pa_cons (pv 0) (pa_cons (pe_tup (pa_cons (pe_glob (v := .ref A.c_NoForm) rfl T.m_NoForm rfl) (pa_cons (pe_glob (v := .ref A.c_NoCounter) rfl T.m_NoCounter rfl) (pa_cons (pe_glob (v := .ref A.c_NoScheme) rfl T.m_NoScheme rfl) (pa_cons (pe_glob (v := .ref A.c_NoSize) rfl T.m_NoSize rfl) (pa_cons (pe_glob (v := .ref A.c_NoRing) rfl T.m_NoRing rfl) (pa_cons (pe_glob (v := .ref A.c_Outside) rfl T.m_Outside rfl) (pa_cons (pe_glob (v := .ref A.c_NoRun) rfl T.m_NoRun rfl) pa_nil)))))))) pa_nil))))
      (pss_cons (ps_if (PW.pt (pw_or (pt_val (pv 1)) (pw_or (pt_not (pt_val (pe_callB (Er.call_isP (K := K) (p := p) rfl List.mem_cons_self) (by rfl) T.n_isinstance (by decide +kernel) (pa_cons (pv 0) (pa_cons (pe_bltn (v := .ty "ValueError") (u := .type "ValueError") (by rfl) T.n_ValueError (by decide +kernel) rfl) pa_nil))))) (pw_or1 (pt_cmpR op_eq (pe_callB (Er.call_isP (K := K) (p := p) rfl List.mem_cons_self) (by rfl) T.n_isinstance (by decide +kernel) (pa_cons (pv 0) (pa_cons (pe_glob (v := .ref A.c_NoSet) rfl T.m_NoSet rfl) pa_nil))) (pe_callB (Er.call_isP (K := K) (p := p) rfl List.mem_cons_self) (by rfl) T.n_isinstance (by decide +kernel) (pa_cons (pv 0) (pa_cons (pe_glob (v := .ref A.c_TooLong) rfl T.m_TooLong rfl) pa_nil))) (nomark _)))))) (pss_one ps_never) pss_nil)
      (pss_one (ps_ret (pe_ix (Rd.ixLK rfl) (pe_lst (pa_cons pe_str (pa_cons pe_str pa_nil))) (pe_callTy call_int1 (by rfl) T.n_int (by decide +kernel) (pa_cons (pe_callB (Er.call_isP (K := K) (p := p) rfl List.mem_cons_self) (by rfl) T.n_isinstance (by decide +kernel) (pa_cons (pv 0) (pa_cons (pe_glob (v := .ref A.c_TooLong) rfl T.m_TooLong rfl) pa_nil))) pa_nil)) (fun _ _ => rfl)))))), ?_⟩
      try dsimp only [L2H.cxH, L2.cxOf, L2.Cx.nox, L2.Cx.wish]
      with_reducible refine Rd.seq (Rd.asg (Rd.cB (Rd.cons (Rd.var (by walk_at "vr") (Rd.cons (Rd.tup (Rd.cons (Rd.c (Rd.cons (Rd.c (Rd.cons ?_)))))))))))
      with_reducible refine Rd.c (Rd.cons (Rd.c (Rd.cons (Rd.c (Rd.cons (Rd.c (Rd.cons (Rd.c (Rd.nil (Rd.laid (by walk_at "ll") ?_))))))))))
      intro p0 np0
      with_reducible refine Rd.nil ?_
      refine ⟨_, _, _, _, _, rfl, (by walk_at "hp"), (.cons (.own _) (.cons (.own _) (.cons (.own _) (.cons (.own _) (.cons (.own _) (.cons (.own _) (.cons (.own _) .nil))))))), hz, hf, T.ec_TooLong, Er.any7 (by walk_at "kit") (by walk_at "kit") (by walk_at "kit") (by walk_at "kit") (by walk_at "kit") (by walk_at "kit") (by walk_at "kit"), ?_⟩
      with_reducible refine Rd.name ?_
      try dsimp only [Int.reduceToNat, List.set]
      with_reducible refine Rd.seq (Rd.ifS (Rd.or (Rd.tb (Rd.var (by walk_at "vr") (Rd.bl (Rd.iteF (by walk_at "bF") (Rd.or (Rd.not (Rd.tb (Rd.cB (Rd.cons ?_)))))))))))
      with_reducible refine Rd.var (by walk_at "vr") (Rd.cons (Rd.c (Rd.nil ?_)))
      refine ⟨_, _, _, _, rfl, hz, hf, T.ec_TooLong, (by walk_at "clsv"), (by walk_at "kit"), ?_⟩
      with_reducible refine Rd.bl (Rd.iteF (by walk_at "bF") (Rd.test (Rd.op (Rd.cB (Rd.cons (Rd.var (by walk_at "vr") (Rd.cons (Rd.c (Rd.nil ?_)))))))))
      refine ⟨_, _, _, _, rfl, hz, hf, T.ec_TooLong, (by walk_at "clsv"), (by walk_at "kit"), ?_⟩
      with_reducible refine Rd.cB (Rd.cons (Rd.var (by walk_at "vr") (Rd.cons (Rd.c (Rd.nil ?_)))))
      refine ⟨_, _, _, _, rfl, hz, hf, T.ec_TooLong, (by walk_at "clsv"), (by walk_at "kit"), ?_⟩
      with_reducible refine Rd.eqS (by walk_at "vr") (Rd.bl (Rd.iteF (by walk_at "bF") (Rd.next (Rd.ret (Rd.op (Rd.lst (Rd.cons (Rd.c (Rd.cons (Rd.c (Rd.nil ?_)))))))))))
      with_reducible refine Rd.laid (by walk_at "ll") ?_
      intro p1 np1
      with_reducible refine Rd.cB (Rd.cons (Rd.cB (Rd.cons (Rd.var (by walk_at "vr") (Rd.cons (Rd.c (Rd.nil ?_)))))))
      refine ⟨_, _, _, _, rfl, hz, hf, T.ec_TooLong, (by walk_at "clsv"), (by walk_at "kit"), ?_⟩
      with_reducible refine Rd.nil ((.inr ⟨_, rfl, ?_⟩))
      refine Rd.ixL (v := .str "long") (by walk_at "hpl") (show atI _ ((1 : Nat) : Int) = _ from atI_nat rfl) ?_
      exact k _ (by walk_at "frm")
/-! _law_made -/
theorem sc_l_made : FnScope ["_law_early", "_law_start", "_law_period", "_law_rests", "_law_found", "_law_e"] ["_law_early", "_law_start", "_law_period", "_law_rests"] (defScope s_l_made) := ⟨rfl, rfl, rfl, by decide +kernel, rfl, by decide +kernel, by decide +kernel⟩
theorem st_l_made {v0 v1 v2 v3 : V} : L2.start ["_law_early", "_law_start", "_law_period", "_law_rests", "_law_found", "_law_e"] [v0, v1, v2, v3] = [some v0, some v1, some v2, some v3, none, none] := rfl
abbrev sp_l_made (K : PySem.W.Frag) (A : Adr) : Sp := fun vs H Q _ => ∃ (e s p r : V), vs = [e, s, p, r] ∧ ((BadR K H e s p r ∧ ∀ H', Same H H' → Q (.str "set") H') ∨ (∃ (le lr : Addr) (u : Rows), e = .ref le ∧ s = .int u.s ∧ p = .int u.p ∧ r = .ref lr ∧ H le = some (.lst (u.E.map V.int)) ∧ H lr = some (.lst (u.R.map V.int)) ∧ u.Ok ∧ u.s ≤ 20000 ∧ u.p ≤ 5000 ∧ ∀ H', Same H H' → Q .non H'))
theorem ok_l_made (T : Txt w K mg A) : FnOk P w K mg base CX0 7 A.f_l_made A.d_l_made ["_law_early", "_law_start", "_law_period", "_law_rests"] (sp_l_made K A) := by
  refine T.F_l_made.ok sc_l_made (fun vs H Q E h => ?_) (fun cdv Ar outer s H vs Q E hr h => ?_)
  · obtain ⟨e, s, p, r, rfl, hy⟩ := h
    rfl
  · obtain ⟨e, s, p, r, rfl, hy⟩ := h
    have hu := hu_of hr
    have t_i_SizeSet := T.i_SizeSet
    have t_kt_NoneType_SizeSet := T.kt_NoneType_SizeSet
    have t_kt_int_SizeSet := T.kt_int_SizeSet
    have t_kt_bool_SizeSet := T.kt_bool_SizeSet
    have t_kt_str_SizeSet := T.kt_str_SizeSet
    have t_kt_tuple_SizeSet := T.kt_tuple_SizeSet
    have t_kt_list_SizeSet := T.kt_list_SizeSet
    have t_kt_dict_SizeSet := T.kt_dict_SizeSet
    have t_kt_SizeSet_SizeSet := T.kt_SizeSet_SizeSet
    have t_nf_SizeSet_SizeSet := T.nf_SizeSet_SizeSet
    have t_nf_NoneType_SizeSet := T.nf_NoneType_SizeSet
    have t_nf_int_SizeSet := T.nf_int_SizeSet
    have t_nf_bool_SizeSet := T.nf_bool_SizeSet
    have t_nf_str_SizeSet := T.nf_str_SizeSet
    have t_nf_tuple_SizeSet := T.nf_tuple_SizeSet
    have t_nf_list_SizeSet := T.nf_list_SizeSet
    have t_nf_dict_SizeSet := T.nf_dict_SizeSet
    have t_kt_NoSet_in_NoForm := T.kt_NoSet_in_NoForm
    have t_kt_NoSet_in_NoCounter := T.kt_NoSet_in_NoCounter
    have t_kt_NoSet_in_NoScheme := T.kt_NoSet_in_NoScheme
    have t_kt_NoSet_in_NoSize := T.kt_NoSet_in_NoSize
    have t_kt_NoSet_in_NoRing := T.kt_NoSet_in_NoRing
    have t_kt_NoSet_in_Outside := T.kt_NoSet_in_Outside
    have t_kt_NoSet_in_NoRun := T.kt_NoSet_in_NoRun
    have t_kt_NoSet_in_NoSet := T.kt_NoSet_in_NoSet
    have t_kt_NoSet_in_TooLong := T.kt_NoSet_in_TooLong
    have t_kt_NoSet_in_VE := T.kt_NoSet_in_VE
    have t_xm_NoSet := T.xm_NoSet
    have t_kt_TooLong_in_NoForm := T.kt_TooLong_in_NoForm
    have t_kt_TooLong_in_NoCounter := T.kt_TooLong_in_NoCounter
    have t_kt_TooLong_in_NoScheme := T.kt_TooLong_in_NoScheme
    have t_kt_TooLong_in_NoSize := T.kt_TooLong_in_NoSize
    have t_kt_TooLong_in_NoRing := T.kt_TooLong_in_NoRing
    have t_kt_TooLong_in_Outside := T.kt_TooLong_in_Outside
    have t_kt_TooLong_in_NoRun := T.kt_TooLong_in_NoRun
    have t_kt_TooLong_in_NoSet := T.kt_TooLong_in_NoSet
    have t_kt_TooLong_in_TooLong := T.kt_TooLong_in_TooLong
    have t_kt_TooLong_in_VE := T.kt_TooLong_in_VE
    have t_xm_TooLong := T.xm_TooLong
    have t_k_SizeSet := T.k_SizeSet
    rcases hy with ⟨hb, k⟩ | ⟨le, lr, u, rfl, rfl, rfl, rfl, hE, hR, ok, sb2, pb, k⟩
    · skip
      refine ⟨_, (pss_cons (ps_set (i := 4) sc_l_made.nd rfl (Or.inl rfl) pe_non)
      (pss_cons (ps_try_as (i := 5) rfl rfl sc_l_made.nd rfl rfl ⟨by rfl, by decide, .inl T.m_RingError⟩ takes0 (fun W pn xe tk _ => (pss_one (ps_expr (TrM.pe_makeS T.K_SizeSet (ok_SizeSetu__initu_ T) (hr.mono (by decide)) (by rfl) T.m_SizeSet T.b_SizeSetu__initu_ .nil (fun σ => passAt tk σ) (pa_cons (pv 0) (pa_cons (pv 1) (pa_cons (pv 2) (pa_cons (pv 3) pa_nil)))))))) (fun ea oe cls d pn hz hf => (pss_one (ps_set (i := 4) sc_l_made.nd rfl (Or.inl rfl) (Er.pe_callE (P := P) (w := w) (K := K) (mg := mg) (base := base) (i := 5) rfl rfl rfl rfl rfl (ok_l_told T) hz hf List.mem_cons_self (Er.roomS (hr.mono (by decide))) (by rfl) T.m_l_told T.F_l_told.kp T.b_l_told rfl (by first | exact Or.inl rfl | exact Or.inr (Or.inl rfl) | exact Or.inr (Or.inr rfl)))))))
      (pss_one (ps_ret (pv 4))))), ?_⟩
      try dsimp only [L2.cxOf, L2.Cx.nox, L2.Cx.wish]
      try rw [st_l_made]
      with_reducible refine Rd.seq (Rd.asg (Rd.c (Rd.name ?_)))
      try dsimp only [Int.reduceToNat, List.set]
      with_reducible refine Rd.seq ?_
      try dsimp only
      with_reducible refine Rd.drop (Rd.mkS (Rd.cons (Rd.var (by walk_at "vr") (Rd.cons (Rd.var (by walk_at "vr") (Rd.cons (Rd.var (by walk_at "vr") (Rd.cons (Rd.var (by walk_at "vr") (Rd.nil ?_))))))))))
      intro x1 dx1 nx1 ndx1 ne1
      refine ⟨_, _, _, _, _, _, rfl, L2.upd_same, .inr ⟨hb.same (by walk_at "frm"), ?_⟩⟩
      refine ⟨true, (by walk_at "exm"), fun _ ea1 nea1 => ?_, fun q => nomatch q⟩
      with_reducible refine Rd.asg ?_
      refine Rd.callE (by walk_at "vr") (fun oe1 hz1 hf1 => ?_)
      refine ⟨_, _, rfl, hz1, hf1, (by walk_at "due"), fun H2 S2 => ?_⟩
      with_reducible refine Rd.name ?_
      try dsimp only [Int.reduceToNat, List.set]
      with_reducible refine Rd.ret (Rd.var (by walk_at "vr") ?_)
      exact k _ (by walk_at "frm")
    · skip
      refine ⟨_, (pss_cons (ps_set (i := 4) sc_l_made.nd rfl (Or.inl rfl) pe_non)
      (pss_cons (ps_try_as (i := 5) rfl rfl sc_l_made.nd rfl rfl ⟨by rfl, by decide, .inl T.m_RingError⟩ takes0 (fun W pn xe tk _ => (pss_one (ps_expr (TrM.pe_makeS T.K_SizeSet (ok_SizeSetu__initu_ T) (hr.mono (by decide)) (by rfl) T.m_SizeSet T.b_SizeSetu__initu_ .nil (fun σ => passAt tk σ) (pa_cons (pv 0) (pa_cons (pv 1) (pa_cons (pv 2) (pa_cons (pv 3) pa_nil)))))))) (fun ea oe cls d pn hz hf => (pss_one (ps_set (i := 4) sc_l_made.nd rfl (Or.inl rfl) (Er.pe_callE (P := P) (w := w) (K := K) (mg := mg) (base := base) (i := 5) rfl rfl rfl rfl rfl (ok_l_told T) hz hf List.mem_cons_self (Er.roomS (hr.mono (by decide))) (by rfl) T.m_l_told T.F_l_told.kp T.b_l_told rfl (by first | exact Or.inl rfl | exact Or.inr (Or.inl rfl) | exact Or.inr (Or.inr rfl)))))))
      (pss_one (ps_ret (pv 4))))), ?_⟩
      try dsimp only [L2.cxOf, L2.Cx.nox, L2.Cx.wish]
      try rw [st_l_made]
      with_reducible refine Rd.seq (Rd.asg (Rd.c (Rd.name ?_)))
      try dsimp only [Int.reduceToNat, List.set]
      with_reducible refine Rd.seq ?_
      try dsimp only
      with_reducible refine Rd.drop (Rd.mkS (Rd.cons (Rd.var (by walk_at "vr") (Rd.cons (Rd.var (by walk_at "vr") (Rd.cons (Rd.var (by walk_at "vr") (Rd.cons (Rd.var (by walk_at "vr") (Rd.nil ?_))))))))))
      intro x1 dx1 nx1 ndx1 ne1
      refine ⟨_, _, _, _, _, _, rfl, L2.upd_same, .inl ⟨_, _, u, rfl, rfl, rfl, rfl, (by walk_at "hp"), (by walk_at "hp"), (by assumption), (by omega), (by omega), fun t1 H1 F1 ca1 sn1 => ?_⟩⟩
      refine ⟨rfl, ?_⟩
      with_reducible refine Rd.ret (Rd.var (by walk_at "vr") ?_)
      exact k _ (by walk_at "frm")
/-! _law_joined -/
theorem sc_l_joined : FnScope ["_law_way", "_law_one", "_law_other", "_law_found", "_law_e"] ["_law_way", "_law_one", "_law_other"] (defScope s_l_joined) := ⟨rfl, rfl, rfl, by decide +kernel, rfl, by decide +kernel, by decide +kernel⟩
theorem st_l_joined {v0 v1 v2 : V} : L2.start ["_law_way", "_law_one", "_law_other", "_law_found", "_law_e"] [v0, v1, v2] = [some v0, some v1, some v2, none, none] := rfl
abbrev sp_l_joined (K : PySem.W.Frag) (A : Adr) : Sp := fun vs H Q _ => ∃ (way : Int) (p : Addr) (u t : Rows) (y : V), vs = [.int way, .ref p, y] ∧ SetG A H p u t ∧ ((OddS A K H y ∧ (way = 0 ∨ way = 1 ∨ way = 2) ∧ ∀ H', Same H H' → Q (.str "set") H') ∨ (∃ (p' : Addr) (u' t' : Rows), y = .ref p' ∧ SetG A H p' u' t' ∧ ((5000 < Lcm.lcmI t.p t'.p ∧ (way = 0 ∨ way = 1 ∨ way = 2) ∧ ∀ H', Same H H' → Q (.str "long") H') ∨ (Lcm.lcmI t.p t'.p ≤ 5000 ∧ way = 0 ∧ ∀ (q : Addr) (r : V) (H' : Hp), Same H H' → H' q = some (.lst [.str "done", r]) → Q (.ref q) H'))))
theorem ok_l_joined (T : Txt w K mg A) : FnOk P w K mg base CX0 9 A.f_l_joined A.d_l_joined ["_law_way", "_law_one", "_law_other"] (sp_l_joined K A) := by
  refine T.F_l_joined.ok sc_l_joined (fun vs H Q E h => ?_) (fun cdv Ar outer s H vs Q E hr h => ?_)
  · obtain ⟨way, p, u, t, y, rfl, g, hy⟩ := h
    rfl
  · obtain ⟨way, p, u, t, y, rfl, g, hy⟩ := h
    have hu := hu_of hr
    have t_i_SizeSet := T.i_SizeSet
    have t_kt_NoneType_SizeSet := T.kt_NoneType_SizeSet
    have t_kt_int_SizeSet := T.kt_int_SizeSet
    have t_kt_bool_SizeSet := T.kt_bool_SizeSet
    have t_kt_str_SizeSet := T.kt_str_SizeSet
    have t_kt_tuple_SizeSet := T.kt_tuple_SizeSet
    have t_kt_list_SizeSet := T.kt_list_SizeSet
    have t_kt_dict_SizeSet := T.kt_dict_SizeSet
    have t_kt_SizeSet_SizeSet := T.kt_SizeSet_SizeSet
    have t_nf_SizeSet_SizeSet := T.nf_SizeSet_SizeSet
    have t_nf_NoneType_SizeSet := T.nf_NoneType_SizeSet
    have t_nf_int_SizeSet := T.nf_int_SizeSet
    have t_nf_bool_SizeSet := T.nf_bool_SizeSet
    have t_nf_str_SizeSet := T.nf_str_SizeSet
    have t_nf_tuple_SizeSet := T.nf_tuple_SizeSet
    have t_nf_list_SizeSet := T.nf_list_SizeSet
    have t_nf_dict_SizeSet := T.nf_dict_SizeSet
    have t_kt_NoSet_in_NoForm := T.kt_NoSet_in_NoForm
    have t_kt_NoSet_in_NoCounter := T.kt_NoSet_in_NoCounter
    have t_kt_NoSet_in_NoScheme := T.kt_NoSet_in_NoScheme
    have t_kt_NoSet_in_NoSize := T.kt_NoSet_in_NoSize
    have t_kt_NoSet_in_NoRing := T.kt_NoSet_in_NoRing
    have t_kt_NoSet_in_Outside := T.kt_NoSet_in_Outside
    have t_kt_NoSet_in_NoRun := T.kt_NoSet_in_NoRun
    have t_kt_NoSet_in_NoSet := T.kt_NoSet_in_NoSet
    have t_kt_NoSet_in_TooLong := T.kt_NoSet_in_TooLong
    have t_kt_NoSet_in_VE := T.kt_NoSet_in_VE
    have t_xm_NoSet := T.xm_NoSet
    have t_kt_TooLong_in_NoForm := T.kt_TooLong_in_NoForm
    have t_kt_TooLong_in_NoCounter := T.kt_TooLong_in_NoCounter
    have t_kt_TooLong_in_NoScheme := T.kt_TooLong_in_NoScheme
    have t_kt_TooLong_in_NoSize := T.kt_TooLong_in_NoSize
    have t_kt_TooLong_in_NoRing := T.kt_TooLong_in_NoRing
    have t_kt_TooLong_in_Outside := T.kt_TooLong_in_Outside
    have t_kt_TooLong_in_NoRun := T.kt_TooLong_in_NoRun
    have t_kt_TooLong_in_NoSet := T.kt_TooLong_in_NoSet
    have t_kt_TooLong_in_TooLong := T.kt_TooLong_in_TooLong
    have t_kt_TooLong_in_VE := T.kt_TooLong_in_VE
    have t_xm_TooLong := T.xm_TooLong
    have t_k_SizeSet := T.k_SizeSet
    rcases hy with ⟨ho, rfl | rfl | rfl, k⟩ | ⟨p', u', t', rfl, g', ⟨lc, rfl | rfl | rfl, k⟩ | ⟨lc, rfl, k⟩⟩
    · obtain ⟨hs1, _⟩ := id g
      obtain ⟨dx1, ea1, re1, em1, rm1, hp1, _⟩ := hs1
      obtain ⟨tn, hT, ty⟩ := ho
      have nf := odd_nf T hT
      refine ⟨_, (pss_cons (ps_set (i := 3) sc_l_joined.nd rfl (Or.inl rfl) pe_non)
      (pss_cons (ps_try_as (i := 4) rfl rfl sc_l_joined.nd rfl rfl ⟨by rfl, by decide, .inl T.m_RingError⟩ takes0 (fun W pn xe tk _ => (pss_one (ps_if (pt_cmpR op_eq (pv 0) pe_int (nomark _)) (pss_one (ps_set (i := 3) sc_l_joined.nd rfl (Or.inl rfl) (TrO.pe_binX (K := K) rfl (op := .BitAnd) (ok_SizeSetu__andu_ T) (hr.mono (by decide)) T.O_SizeSetu__andu__V T.b_SizeSetu__andu_ (fun σ => passAt tk σ) (pv 1) (pv 2)))) (pss_one ps_never)))) (fun ea oe cls d pn hz hf => (pss_one (ps_ret (Er.pe_callE (P := P) (w := w) (K := K) (mg := mg) (base := base) (i := 4) rfl rfl rfl rfl rfl (ok_l_told T) hz hf List.mem_cons_self (Er.roomS (hr.mono (by decide))) (by rfl) T.m_l_told T.F_l_told.kp T.b_l_told rfl (by first | exact Or.inl rfl | exact Or.inr (Or.inl rfl) | exact Or.inr (Or.inr rfl)))))))
      (pss_one ps_never))), ?_⟩
      try dsimp only [L2.cxOf, L2.Cx.nox, L2.Cx.wish]
      try rw [st_l_joined]
      with_reducible refine Rd.seq (Rd.asg (Rd.c (Rd.name ?_)))
      try dsimp only [Int.reduceToNat, List.set]
      with_reducible refine Rd.seq ?_
      try dsimp only
      with_reducible refine Rd.ifS (Rd.test (Rd.op (Rd.var (by walk_at "vr") (Rd.c (Rd.eqS (by walk_at "vr") (Rd.bl (Rd.iteT (by walk_at "bT") (Rd.asg (Rd.binX (Rd.var (by walk_at "vr") (Rd.var (by walk_at "vr") ?_)))))))))))
      refine ⟨_, _, _, _, rfl, (by walk_at "hp"), (by walk_at "t7"), (by walk_at "tyx"), ?_⟩
      refine ⟨_, _, _, _, rfl, (by walk_at "sg"), .inr ⟨⟨_, (by with_reducible assumption), (by walk_at "tyx")⟩, fun H1 S1 => ?_⟩⟩
      refine ⟨true, (by walk_at "exm"), fun _ ea1 nea1 => ?_, fun q => nomatch q⟩
      with_reducible refine Rd.ret ?_
      refine Rd.callE (by walk_at "vr") (fun oe1 hz1 hf1 => ?_)
      refine ⟨_, _, rfl, hz1, hf1, (by walk_at "due"), fun H2 S2 => ?_⟩
      exact k _ (by walk_at "frm")
    · obtain ⟨hs1, _⟩ := id g
      obtain ⟨dx1, ea1, re1, em1, rm1, hp1, _⟩ := hs1
      obtain ⟨tn, hT, ty⟩ := ho
      have nf := odd_nf T hT
      refine ⟨_, (pss_cons (ps_set (i := 3) sc_l_joined.nd rfl (Or.inl rfl) pe_non)
      (pss_cons (ps_try_as (i := 4) rfl rfl sc_l_joined.nd rfl rfl ⟨by rfl, by decide, .inl T.m_RingError⟩ takes0 (fun W pn xe tk _ => (pss_one (ps_if (pt_cmpR op_eq (pv 0) pe_int (nomark _)) (pss_one ps_never) (pss_one (ps_if (pt_cmpR op_eq (pv 0) pe_int (nomark _)) (pss_one (ps_set (i := 3) sc_l_joined.nd rfl (Or.inl rfl) (TrO.pe_binX (K := K) rfl (op := .BitOr) (ok_SizeSetu__oru_ T) (hr.mono (by decide)) T.O_SizeSetu__oru__V T.b_SizeSetu__oru_ (fun σ => passAt tk σ) (pv 1) (pv 2)))) (pss_one ps_never)))))) (fun ea oe cls d pn hz hf => (pss_one (ps_ret (Er.pe_callE (P := P) (w := w) (K := K) (mg := mg) (base := base) (i := 4) rfl rfl rfl rfl rfl (ok_l_told T) hz hf List.mem_cons_self (Er.roomS (hr.mono (by decide))) (by rfl) T.m_l_told T.F_l_told.kp T.b_l_told rfl (by first | exact Or.inl rfl | exact Or.inr (Or.inl rfl) | exact Or.inr (Or.inr rfl)))))))
      (pss_one ps_never))), ?_⟩
      try dsimp only [L2.cxOf, L2.Cx.nox, L2.Cx.wish]
      try rw [st_l_joined]
      with_reducible refine Rd.seq (Rd.asg (Rd.c (Rd.name ?_)))
      try dsimp only [Int.reduceToNat, List.set]
      with_reducible refine Rd.seq ?_
      try dsimp only
      with_reducible refine Rd.ifS (Rd.test (Rd.op (Rd.var (by walk_at "vr") (Rd.c (Rd.eqS (by walk_at "vr") (Rd.bl (Rd.iteF (by walk_at "bF") (Rd.ifS (Rd.test (Rd.op (Rd.var (by walk_at "vr") ?_)))))))))))
      with_reducible refine Rd.c (Rd.eqS (by walk_at "vr") (Rd.bl (Rd.iteT (by walk_at "bT") (Rd.asg (Rd.binX (Rd.var (by walk_at "vr") (Rd.var (by walk_at "vr") ?_)))))))
      refine ⟨_, _, _, _, rfl, (by walk_at "hp"), (by walk_at "t7"), (by walk_at "tyx"), ?_⟩
      refine ⟨_, _, _, _, rfl, (by walk_at "sg"), .inr ⟨⟨_, (by with_reducible assumption), (by walk_at "tyx")⟩, fun H1 S1 => ?_⟩⟩
      refine ⟨true, (by walk_at "exm"), fun _ ea1 nea1 => ?_, fun q => nomatch q⟩
      with_reducible refine Rd.ret ?_
      refine Rd.callE (by walk_at "vr") (fun oe1 hz1 hf1 => ?_)
      refine ⟨_, _, rfl, hz1, hf1, (by walk_at "due"), fun H2 S2 => ?_⟩
      exact k _ (by walk_at "frm")
    · obtain ⟨hs1, _⟩ := id g
      obtain ⟨dx1, ea1, re1, em1, rm1, hp1, _⟩ := hs1
      obtain ⟨tn, hT, ty⟩ := ho
      have nf := odd_nf T hT
      refine ⟨_, (pss_cons (ps_set (i := 3) sc_l_joined.nd rfl (Or.inl rfl) pe_non)
      (pss_cons (ps_try_as (i := 4) rfl rfl sc_l_joined.nd rfl rfl ⟨by rfl, by decide, .inl T.m_RingError⟩ takes0 (fun W pn xe tk _ => (pss_one (ps_if (pt_cmpR op_eq (pv 0) pe_int (nomark _)) (pss_one ps_never) (pss_one (ps_if (pt_cmpR op_eq (pv 0) pe_int (nomark _)) (pss_one ps_never) (pss_one (ps_set (i := 3) sc_l_joined.nd rfl (Or.inl rfl) (TrO.pe_cmpS (K := K) rfl (cop := .LtE) (ok_SizeSetu__leu_ T) (hr.mono (by decide)) T.O_SizeSetu__leu__1 T.b_SizeSetu__leu_ (fun σ => passAt tk σ) (pv 1) (pv 2) (nomark _))))))))) (fun ea oe cls d pn hz hf => (pss_one (ps_ret (Er.pe_callE (P := P) (w := w) (K := K) (mg := mg) (base := base) (i := 4) rfl rfl rfl rfl rfl (ok_l_told T) hz hf List.mem_cons_self (Er.roomS (hr.mono (by decide))) (by rfl) T.m_l_told T.F_l_told.kp T.b_l_told rfl (by first | exact Or.inl rfl | exact Or.inr (Or.inl rfl) | exact Or.inr (Or.inr rfl)))))))
      (pss_one ps_never))), ?_⟩
      try dsimp only [L2.cxOf, L2.Cx.nox, L2.Cx.wish]
      try rw [st_l_joined]
      with_reducible refine Rd.seq (Rd.asg (Rd.c (Rd.name ?_)))
      try dsimp only [Int.reduceToNat, List.set]
      with_reducible refine Rd.seq ?_
      try dsimp only
      with_reducible refine Rd.ifS (Rd.test (Rd.op (Rd.var (by walk_at "vr") (Rd.c (Rd.eqS (by walk_at "vr") (Rd.bl (Rd.iteF (by walk_at "bF") (Rd.ifS (Rd.test (Rd.op (Rd.var (by walk_at "vr") ?_)))))))))))
      with_reducible refine Rd.c (Rd.eqS (by walk_at "vr") (Rd.bl (Rd.iteF (by walk_at "bF") (Rd.asg (Rd.cmpS (Rd.var (by walk_at "vr") (Rd.var (by walk_at "vr") ?_)))))))
      refine ⟨_, _, _, _, rfl, (by walk_at "hp"), (by walk_at "tyx"), (by walk_at "nf"), ?_⟩
      refine ⟨_, _, _, _, rfl, (by walk_at "sg"), .inr ⟨⟨_, (by with_reducible assumption), (by walk_at "tyx")⟩, fun H1 S1 => ?_⟩⟩
      refine ⟨true, (by walk_at "exm"), fun _ ea1 nea1 => ?_, fun q => nomatch q⟩
      with_reducible refine Rd.ret ?_
      refine Rd.callE (by walk_at "vr") (fun oe1 hz1 hf1 => ?_)
      refine ⟨_, _, rfl, hz1, hf1, (by walk_at "due"), fun H2 S2 => ?_⟩
      exact k _ (by walk_at "frm")
    · obtain ⟨hs1, _⟩ := id g
      obtain ⟨dx1, ea1, re1, em1, rm1, hp1, _⟩ := hs1
      obtain ⟨hs2, _⟩ := id g'
      obtain ⟨dx2, ea2, re2, em2, rm2, hp2, _⟩ := hs2
      refine ⟨_, (pss_cons (ps_set (i := 3) sc_l_joined.nd rfl (Or.inl rfl) pe_non)
      (pss_cons (ps_try_as (i := 4) rfl rfl sc_l_joined.nd rfl rfl ⟨by rfl, by decide, .inl T.m_RingError⟩ takes0 (fun W pn xe tk _ => (pss_one (ps_if (pt_cmpR op_eq (pv 0) pe_int (nomark _)) (pss_one (ps_set (i := 3) sc_l_joined.nd rfl (Or.inl rfl) (TrO.pe_binS (op := .BitAnd) (ok_SizeSetu__andu_ T) (hr.mono (by decide)) T.O_SizeSetu__andu__S T.b_SizeSetu__andu_ (fun σ => passAt tk σ) (pv 1) (pv 2)))) (pss_one ps_never)))) (fun ea oe cls d pn hz hf => (pss_one (ps_ret (Er.pe_callE (P := P) (w := w) (K := K) (mg := mg) (base := base) (i := 4) rfl rfl rfl rfl rfl (ok_l_told T) hz hf List.mem_cons_self (Er.roomS (hr.mono (by decide))) (by rfl) T.m_l_told T.F_l_told.kp T.b_l_told rfl (by first | exact Or.inl rfl | exact Or.inr (Or.inl rfl) | exact Or.inr (Or.inr rfl)))))))
      (pss_one ps_never))), ?_⟩
      try dsimp only [L2.cxOf, L2.Cx.nox, L2.Cx.wish]
      try rw [st_l_joined]
      with_reducible refine Rd.seq (Rd.asg (Rd.c (Rd.name ?_)))
      try dsimp only [Int.reduceToNat, List.set]
      with_reducible refine Rd.seq ?_
      try dsimp only
      with_reducible refine Rd.ifS (Rd.test (Rd.op (Rd.var (by walk_at "vr") (Rd.c (Rd.eqS (by walk_at "vr") (Rd.bl (Rd.iteT (by walk_at "bT") (Rd.asg (Rd.binS (Rd.var (by walk_at "vr") (Rd.var (by walk_at "vr") ?_)))))))))))
      refine ⟨_, _, _, _, _, _, rfl, rfl, (by walk_at "hp"), (by walk_at "hp"), ?_⟩
      refine ⟨_, _, _, _, rfl, (by walk_at "sg"), .inl ⟨_, _, _, rfl, (by walk_at "sg"), .inr ⟨lc, fun H1 S1 => ?_⟩⟩⟩
      refine ⟨true, (by walk_at "exm"), fun _ ea1 nea1 => ?_, fun q => nomatch q⟩
      with_reducible refine Rd.ret ?_
      refine Rd.callE (by walk_at "vr") (fun oe1 hz1 hf1 => ?_)
      refine ⟨_, _, rfl, hz1, hf1, (by walk_at "due"), fun H2 S2 => ?_⟩
      exact k _ (by walk_at "frm")
    · obtain ⟨hs1, _⟩ := id g
      obtain ⟨dx1, ea1, re1, em1, rm1, hp1, _⟩ := hs1
      obtain ⟨hs2, _⟩ := id g'
      obtain ⟨dx2, ea2, re2, em2, rm2, hp2, _⟩ := hs2
      refine ⟨_, (pss_cons (ps_set (i := 3) sc_l_joined.nd rfl (Or.inl rfl) pe_non)
      (pss_cons (ps_try_as (i := 4) rfl rfl sc_l_joined.nd rfl rfl ⟨by rfl, by decide, .inl T.m_RingError⟩ takes0 (fun W pn xe tk _ => (pss_one (ps_if (pt_cmpR op_eq (pv 0) pe_int (nomark _)) (pss_one ps_never) (pss_one (ps_if (pt_cmpR op_eq (pv 0) pe_int (nomark _)) (pss_one (ps_set (i := 3) sc_l_joined.nd rfl (Or.inl rfl) (TrO.pe_binS (op := .BitOr) (ok_SizeSetu__oru_ T) (hr.mono (by decide)) T.O_SizeSetu__oru__S T.b_SizeSetu__oru_ (fun σ => passAt tk σ) (pv 1) (pv 2)))) (pss_one ps_never)))))) (fun ea oe cls d pn hz hf => (pss_one (ps_ret (Er.pe_callE (P := P) (w := w) (K := K) (mg := mg) (base := base) (i := 4) rfl rfl rfl rfl rfl (ok_l_told T) hz hf List.mem_cons_self (Er.roomS (hr.mono (by decide))) (by rfl) T.m_l_told T.F_l_told.kp T.b_l_told rfl (by first | exact Or.inl rfl | exact Or.inr (Or.inl rfl) | exact Or.inr (Or.inr rfl)))))))
      (pss_one ps_never))), ?_⟩
      try dsimp only [L2.cxOf, L2.Cx.nox, L2.Cx.wish]
      try rw [st_l_joined]
      with_reducible refine Rd.seq (Rd.asg (Rd.c (Rd.name ?_)))
      try dsimp only [Int.reduceToNat, List.set]
      with_reducible refine Rd.seq ?_
      try dsimp only
      with_reducible refine Rd.ifS (Rd.test (Rd.op (Rd.var (by walk_at "vr") (Rd.c (Rd.eqS (by walk_at "vr") (Rd.bl (Rd.iteF (by walk_at "bF") (Rd.ifS (Rd.test (Rd.op (Rd.var (by walk_at "vr") ?_)))))))))))
      with_reducible refine Rd.c (Rd.eqS (by walk_at "vr") (Rd.bl (Rd.iteT (by walk_at "bT") (Rd.asg (Rd.binS (Rd.var (by walk_at "vr") (Rd.var (by walk_at "vr") ?_)))))))
      refine ⟨_, _, _, _, _, _, rfl, rfl, (by walk_at "hp"), (by walk_at "hp"), ?_⟩
      refine ⟨_, _, _, _, rfl, (by walk_at "sg"), .inl ⟨_, _, _, rfl, (by walk_at "sg"), .inr ⟨lc, fun H1 S1 => ?_⟩⟩⟩
      refine ⟨true, (by walk_at "exm"), fun _ ea1 nea1 => ?_, fun q => nomatch q⟩
      with_reducible refine Rd.ret ?_
      refine Rd.callE (by walk_at "vr") (fun oe1 hz1 hf1 => ?_)
      refine ⟨_, _, rfl, hz1, hf1, (by walk_at "due"), fun H2 S2 => ?_⟩
      exact k _ (by walk_at "frm")
    · obtain ⟨hs1, _⟩ := id g
      obtain ⟨dx1, ea1, re1, em1, rm1, hp1, _⟩ := hs1
      obtain ⟨hs2, _⟩ := id g'
      obtain ⟨dx2, ea2, re2, em2, rm2, hp2, _⟩ := hs2
      refine ⟨_, (pss_cons (ps_set (i := 3) sc_l_joined.nd rfl (Or.inl rfl) pe_non)
      (pss_cons (ps_try_as (i := 4) rfl rfl sc_l_joined.nd rfl rfl ⟨by rfl, by decide, .inl T.m_RingError⟩ takes0 (fun W pn xe tk _ => (pss_one (ps_if (pt_cmpR op_eq (pv 0) pe_int (nomark _)) (pss_one ps_never) (pss_one (ps_if (pt_cmpR op_eq (pv 0) pe_int (nomark _)) (pss_one ps_never) (pss_one (ps_set (i := 3) sc_l_joined.nd rfl (Or.inl rfl) (TrO.pe_cmpS (K := K) rfl (cop := .LtE) (ok_SizeSetu__leu_ T) (hr.mono (by decide)) T.O_SizeSetu__leu__1 T.b_SizeSetu__leu_ (fun σ => passAt tk σ) (pv 1) (pv 2) (nomark _))))))))) (fun ea oe cls d pn hz hf => (pss_one (ps_ret (Er.pe_callE (P := P) (w := w) (K := K) (mg := mg) (base := base) (i := 4) rfl rfl rfl rfl rfl (ok_l_told T) hz hf List.mem_cons_self (Er.roomS (hr.mono (by decide))) (by rfl) T.m_l_told T.F_l_told.kp T.b_l_told rfl (by first | exact Or.inl rfl | exact Or.inr (Or.inl rfl) | exact Or.inr (Or.inr rfl)))))))
      (pss_one ps_never))), ?_⟩
      try dsimp only [L2.cxOf, L2.Cx.nox, L2.Cx.wish]
      try rw [st_l_joined]
      with_reducible refine Rd.seq (Rd.asg (Rd.c (Rd.name ?_)))
      try dsimp only [Int.reduceToNat, List.set]
      with_reducible refine Rd.seq ?_
      try dsimp only
      with_reducible refine Rd.ifS (Rd.test (Rd.op (Rd.var (by walk_at "vr") (Rd.c (Rd.eqS (by walk_at "vr") (Rd.bl (Rd.iteF (by walk_at "bF") (Rd.ifS (Rd.test (Rd.op (Rd.var (by walk_at "vr") ?_)))))))))))
      with_reducible refine Rd.c (Rd.eqS (by walk_at "vr") (Rd.bl (Rd.iteF (by walk_at "bF") (Rd.asg (Rd.cmpS (Rd.var (by walk_at "vr") (Rd.var (by walk_at "vr") ?_)))))))
      refine ⟨_, _, _, _, rfl, (by walk_at "hp"), (by walk_at "tyx"), (by walk_at "nf"), ?_⟩
      refine ⟨_, _, _, _, rfl, (by walk_at "sg"), .inl ⟨_, _, _, rfl, (by walk_at "sg"), .inr ⟨lc, fun H1 S1 => ?_⟩⟩⟩
      refine ⟨true, (by walk_at "exm"), fun _ ea1 nea1 => ?_, fun q => nomatch q⟩
      with_reducible refine Rd.ret ?_
      refine Rd.callE (by walk_at "vr") (fun oe1 hz1 hf1 => ?_)
      refine ⟨_, _, rfl, hz1, hf1, (by walk_at "due"), fun H2 S2 => ?_⟩
      exact k _ (by walk_at "frm")
    · obtain ⟨hs1, _⟩ := id g
      obtain ⟨dx1, ea1, re1, em1, rm1, hp1, _⟩ := hs1
      obtain ⟨hs2, _⟩ := id g'
      obtain ⟨dx2, ea2, re2, em2, rm2, hp2, _⟩ := hs2
      refine ⟨_, (pss_cons (ps_set (i := 3) sc_l_joined.nd rfl (Or.inl rfl) pe_non)
      (pss_cons (ps_try_as (i := 4) rfl rfl sc_l_joined.nd rfl rfl ⟨by rfl, by decide, .inl T.m_RingError⟩ takes0 (fun W pn xe tk _ => (pss_one (ps_if (pt_cmpR op_eq (pv 0) pe_int (nomark _)) (pss_one (ps_set (i := 3) sc_l_joined.nd rfl (Or.inl rfl) (TrO.pe_binS (op := .BitAnd) (ok_SizeSetu__andu_ T) (hr.mono (by decide)) T.O_SizeSetu__andu__S T.b_SizeSetu__andu_ (fun σ => passAt tk σ) (pv 1) (pv 2)))) (pss_one ps_never)))) (fun ea oe cls d pn hz hf => (pss_one (ps_ret (Er.pe_callE (P := P) (w := w) (K := K) (mg := mg) (base := base) (i := 4) rfl rfl rfl rfl rfl (ok_l_told T) hz hf List.mem_cons_self (Er.roomS (hr.mono (by decide))) (by rfl) T.m_l_told T.F_l_told.kp T.b_l_told rfl (by first | exact Or.inl rfl | exact Or.inr (Or.inl rfl) | exact Or.inr (Or.inr rfl)))))))
      (pss_one (ps_ret (pe_lst (pa_cons pe_str (pa_cons (pv 3) pa_nil))))))), ?_⟩
      try dsimp only [L2.cxOf, L2.Cx.nox, L2.Cx.wish]
      try rw [st_l_joined]
      with_reducible refine Rd.seq (Rd.asg (Rd.c (Rd.name ?_)))
      try dsimp only [Int.reduceToNat, List.set]
      with_reducible refine Rd.seq ?_
      try dsimp only
      with_reducible refine Rd.ifS (Rd.test (Rd.op (Rd.var (by walk_at "vr") (Rd.c (Rd.eqS (by walk_at "vr") (Rd.bl (Rd.iteT (by walk_at "bT") (Rd.asg (Rd.binS (Rd.var (by walk_at "vr") (Rd.var (by walk_at "vr") ?_)))))))))))
      refine ⟨_, _, _, _, _, _, rfl, rfl, (by walk_at "hp"), (by walk_at "hp"), ?_⟩
      refine ⟨_, _, _, _, rfl, (by walk_at "sg"), .inl ⟨_, _, _, rfl, (by walk_at "sg"), .inl ⟨lc, fun r1 x1 z1 H1 S1 nr1 g1 sn1 _ _ _ _ => ?_⟩⟩⟩
      with_reducible refine Rd.name ?_
      try dsimp only [Int.reduceToNat, List.set]
      with_reducible refine Rd.ret (Rd.lst (Rd.cons (Rd.c (Rd.cons (Rd.var (by walk_at "vr") (Rd.nil (Rd.laid (by walk_at "ll") ?_)))))))
      intro p0 np0
      exact k _ _ _ (by walk_at "frm") L2.upd_same
/-! _law_wrong -/
theorem sc_l_wrong : FnScope ["_law_source_here", "_law_some"] ["_law_source_here"] (defScope s_l_wrong) := ⟨rfl, rfl, rfl, by decide +kernel, rfl, by decide +kernel, by decide +kernel⟩
theorem st_l_wrong {v0 : V} : L2.start ["_law_source_here", "_law_some"] [v0] = [some v0, none] := rfl
abbrev sp_l_wrong (K : PySem.W.Frag) (A : Adr) : Sp := fun vs H Q _ => ∃ (a : Addr) (o : HO), vs = [.ref a] ∧ H a = some o ∧ SrcO o ∧ ∀ (v : V) (o' : HO) (H' : Hp), Frm a H H' → H' a = some o' → SrcO o' → RowB a H' v → Q v H'
theorem ok_l_wrong (T : Txt w K mg A) : FnOk P w K mg base CX0 2 A.f_l_wrong A.d_l_wrong ["_law_source_here"] (sp_l_wrong K A) := by
  refine T.F_l_wrong.ok sc_l_wrong (fun vs H Q E h => ?_) (fun cdv Ar outer s H vs Q E hr h => ?_)
  · obtain ⟨a, o, rfl, ha, ho, k⟩ := h
    rfl
  · obtain ⟨a, o, rfl, ha, ho, k⟩ := h
    have hu := hu_of hr
    have t_i_SizeSet := T.i_SizeSet
    have t_kt_NoneType_SizeSet := T.kt_NoneType_SizeSet
    have t_kt_int_SizeSet := T.kt_int_SizeSet
    have t_kt_bool_SizeSet := T.kt_bool_SizeSet
    have t_kt_str_SizeSet := T.kt_str_SizeSet
    have t_kt_tuple_SizeSet := T.kt_tuple_SizeSet
    have t_kt_list_SizeSet := T.kt_list_SizeSet
    have t_kt_dict_SizeSet := T.kt_dict_SizeSet
    have t_kt_SizeSet_SizeSet := T.kt_SizeSet_SizeSet
    have t_nf_SizeSet_SizeSet := T.nf_SizeSet_SizeSet
    have t_nf_NoneType_SizeSet := T.nf_NoneType_SizeSet
    have t_nf_int_SizeSet := T.nf_int_SizeSet
    have t_nf_bool_SizeSet := T.nf_bool_SizeSet
    have t_nf_str_SizeSet := T.nf_str_SizeSet
    have t_nf_tuple_SizeSet := T.nf_tuple_SizeSet
    have t_nf_list_SizeSet := T.nf_list_SizeSet
    have t_nf_dict_SizeSet := T.nf_dict_SizeSet
    have t_kt_NoSet_in_NoForm := T.kt_NoSet_in_NoForm
    have t_kt_NoSet_in_NoCounter := T.kt_NoSet_in_NoCounter
    have t_kt_NoSet_in_NoScheme := T.kt_NoSet_in_NoScheme
    have t_kt_NoSet_in_NoSize := T.kt_NoSet_in_NoSize
    have t_kt_NoSet_in_NoRing := T.kt_NoSet_in_NoRing
    have t_kt_NoSet_in_Outside := T.kt_NoSet_in_Outside
    have t_kt_NoSet_in_NoRun := T.kt_NoSet_in_NoRun
    have t_kt_NoSet_in_NoSet := T.kt_NoSet_in_NoSet
    have t_kt_NoSet_in_TooLong := T.kt_NoSet_in_TooLong
    have t_kt_NoSet_in_VE := T.kt_NoSet_in_VE
    have t_xm_NoSet := T.xm_NoSet
    have t_kt_TooLong_in_NoForm := T.kt_TooLong_in_NoForm
    have t_kt_TooLong_in_NoCounter := T.kt_TooLong_in_NoCounter
    have t_kt_TooLong_in_NoScheme := T.kt_TooLong_in_NoScheme
    have t_kt_TooLong_in_NoSize := T.kt_TooLong_in_NoSize
    have t_kt_TooLong_in_NoRing := T.kt_TooLong_in_NoRing
    have t_kt_TooLong_in_Outside := T.kt_TooLong_in_Outside
    have t_kt_TooLong_in_NoRun := T.kt_TooLong_in_NoRun
    have t_kt_TooLong_in_NoSet := T.kt_TooLong_in_NoSet
    have t_kt_TooLong_in_TooLong := T.kt_TooLong_in_TooLong
    have t_kt_TooLong_in_VE := T.kt_TooLong_in_VE
    have t_xm_TooLong := T.xm_TooLong
    have t_k_SizeSet := T.k_SizeSet
    refine ⟨_, (pss_cons (ps_set (i := 1) sc_l_wrong.nd rfl (Or.inl rfl) (pe_lst (pa_cons (pe_tup (pa_cons (pe_lst pa_nil) (pa_cons pe_int (pa_cons pe_int (pa_cons (pe_lst pa_nil) pa_nil))))) (pa_cons (pe_tup (pa_cons (pe_lst pa_nil) (pa_cons (pe_un un_neg pe_int) (pa_cons pe_int (pa_cons (pe_lst pa_nil) pa_nil))))) (pa_cons (pe_tup (pa_cons (pe_lst pa_nil) (pa_cons pe_int (pa_cons pe_int (pa_cons (pe_lst pa_nil) pa_nil))))) (pa_cons (pe_tup (pa_cons (pe_lst pa_nil) (pa_cons pe_non (pa_cons pe_int (pa_cons (pe_lst pa_nil) pa_nil))))) (pa_cons (pe_tup (pa_cons (pe_lst pa_nil) (pa_cons pe_bl (pa_cons pe_int (pa_cons (pe_lst pa_nil) pa_nil))))) (pa_cons (pe_tup (pa_cons (pe_lst pa_nil) (pa_cons pe_str (pa_cons pe_int (pa_cons (pe_lst pa_nil) pa_nil))))) pa_nil))))))))
      (pss_cons (ps_set (i := 1) sc_l_wrong.nd rfl (Or.inl rfl) (pe_op op_cat (pv 1) (pe_lst (pa_cons (pe_tup (pa_cons (pe_lst pa_nil) (pa_cons pe_int (pa_cons pe_int (pa_cons (pe_lst pa_nil) pa_nil))))) (pa_cons (pe_tup (pa_cons (pe_lst pa_nil) (pa_cons pe_int (pa_cons (pe_un un_neg pe_int) (pa_cons (pe_lst pa_nil) pa_nil))))) (pa_cons (pe_tup (pa_cons (pe_lst pa_nil) (pa_cons pe_int (pa_cons pe_int (pa_cons (pe_lst pa_nil) pa_nil))))) (pa_cons (pe_tup (pa_cons (pe_lst pa_nil) (pa_cons pe_int (pa_cons pe_non (pa_cons (pe_lst pa_nil) pa_nil))))) (pa_cons (pe_tup (pa_cons (pe_lst pa_nil) (pa_cons pe_int (pa_cons pe_bl (pa_cons (pe_lst (pa_cons pe_int pa_nil)) pa_nil))))) pa_nil))))))))
      (pss_cons (ps_set (i := 1) sc_l_wrong.nd rfl (Or.inl rfl) (pe_op op_cat (pv 1) (pe_lst (pa_cons (pe_tup (pa_cons (pe_lst (pa_cons pe_int pa_nil)) (pa_cons pe_int (pa_cons pe_int (pa_cons (pe_lst (pa_cons pe_int pa_nil)) pa_nil))))) (pa_cons (pe_tup (pa_cons (pe_lst (pa_cons pe_int pa_nil)) (pa_cons pe_int (pa_cons pe_int (pa_cons (pe_lst pa_nil) pa_nil))))) (pa_cons (pe_tup (pa_cons (pe_lst (pa_cons pe_int pa_nil)) (pa_cons pe_int (pa_cons pe_int (pa_cons (pe_lst pa_nil) pa_nil))))) (pa_cons (pe_tup (pa_cons (pe_lst (pa_cons pe_int (pa_cons pe_int pa_nil))) (pa_cons pe_int (pa_cons pe_int (pa_cons (pe_lst pa_nil) pa_nil))))) (pa_cons (pe_tup (pa_cons (pe_lst (pa_cons pe_int (pa_cons pe_int pa_nil))) (pa_cons pe_int (pa_cons pe_int (pa_cons (pe_lst pa_nil) pa_nil))))) pa_nil))))))))
      (pss_cons (ps_set (i := 1) sc_l_wrong.nd rfl (Or.inl rfl) (pe_op op_cat (pv 1) (pe_lst (pa_cons (pe_tup (pa_cons (pe_tup (pa_cons pe_int pa_nil)) (pa_cons pe_int (pa_cons pe_int (pa_cons (pe_lst pa_nil) pa_nil))))) (pa_cons (pe_tup (pa_cons pe_non (pa_cons pe_int (pa_cons pe_int (pa_cons (pe_lst pa_nil) pa_nil))))) (pa_cons (pe_tup (pa_cons (pe_lst (pa_cons pe_non pa_nil)) (pa_cons pe_int (pa_cons pe_int (pa_cons (pe_lst pa_nil) pa_nil))))) (pa_cons (pe_tup (pa_cons (pe_lst (pa_cons pe_bl pa_nil)) (pa_cons pe_int (pa_cons pe_int (pa_cons (pe_lst pa_nil) pa_nil))))) (pa_cons (pe_tup (pa_cons (pe_lst (pa_cons pe_str pa_nil)) (pa_cons pe_int (pa_cons pe_int (pa_cons (pe_lst pa_nil) pa_nil))))) (pa_cons (pe_tup (pa_cons pe_str (pa_cons pe_int (pa_cons pe_int (pa_cons (pe_lst pa_nil) pa_nil))))) pa_nil)))))))))
      (pss_cons (ps_set (i := 1) sc_l_wrong.nd rfl (Or.inl rfl) (pe_op op_cat (pv 1) (pe_lst (pa_cons (pe_tup (pa_cons (pe_lst pa_nil) (pa_cons pe_int (pa_cons pe_int (pa_cons (pe_lst (pa_cons pe_int pa_nil)) pa_nil))))) (pa_cons (pe_tup (pa_cons (pe_lst pa_nil) (pa_cons pe_int (pa_cons pe_int (pa_cons (pe_lst (pa_cons (pe_un un_neg pe_int) pa_nil)) pa_nil))))) (pa_cons (pe_tup (pa_cons (pe_lst pa_nil) (pa_cons pe_int (pa_cons pe_int (pa_cons (pe_lst (pa_cons pe_int (pa_cons pe_int pa_nil))) pa_nil))))) (pa_cons (pe_tup (pa_cons (pe_lst pa_nil) (pa_cons pe_int (pa_cons pe_int (pa_cons (pe_lst (pa_cons pe_int (pa_cons pe_int pa_nil))) pa_nil))))) (pa_cons (pe_tup (pa_cons (pe_lst pa_nil) (pa_cons pe_int (pa_cons pe_int (pa_cons (pe_tup (pa_cons pe_int pa_nil)) pa_nil))))) pa_nil))))))))
      (pss_cons (ps_set (i := 1) sc_l_wrong.nd rfl (Or.inl rfl) (pe_op op_cat (pv 1) (pe_lst (pa_cons (pe_tup (pa_cons (pe_lst pa_nil) (pa_cons pe_int (pa_cons pe_int (pa_cons pe_non pa_nil))))) (pa_cons (pe_tup (pa_cons (pe_lst pa_nil) (pa_cons pe_int (pa_cons pe_int (pa_cons (pe_lst (pa_cons pe_non pa_nil)) pa_nil))))) (pa_cons (pe_tup (pa_cons (pe_lst pa_nil) (pa_cons pe_int (pa_cons pe_int (pa_cons (pe_lst (pa_cons pe_bl pa_nil)) pa_nil))))) (pa_cons (pe_tup (pa_cons (pe_lst pa_nil) (pa_cons pe_int (pa_cons pe_int (pa_cons (pe_lst (pa_cons pe_str pa_nil)) pa_nil))))) (pa_cons (pe_tup (pa_cons pe_dnewK (pa_cons pe_int (pa_cons pe_int (pa_cons (pe_lst pa_nil) pa_nil))))) pa_nil))))))))
      (pss_one (ps_ret (pe_ix (Rd.ixLK rfl) (pv 1) (pe_call (ok_l_draw T) (hr.mono (by decide)) (by rfl) T.m_l_draw T.F_l_draw.kp T.b_l_draw .nil pass0 (pa_cons (pv 0) (pa_cons (pe_callB call_len_seq (by rfl) T.n_len PySem.boot_len (pa_cons (pv 1) pa_nil)) pa_nil))) (fun _ _ => rfl)))))))))), ?_⟩
    try dsimp only [L2.cxOf, L2.Cx.nox, L2.Cx.wish]
    try rw [st_l_wrong]
    with_reducible refine Rd.seq (Rd.asg (Rd.lst (Rd.cons (Rd.tup (Rd.cons (Rd.lst (Rd.nil (Rd.laid (by walk_at "ll") ?_))))))))
    intro p2 np2
    have ap_p2_a : p2 ≠ a := ne_none' np2 (by walk_at "hp")
    with_reducible refine Rd.cons (Rd.c (Rd.cons (Rd.c (Rd.cons (Rd.lst (Rd.nil (Rd.laid (by walk_at "ll") ?_)))))))
    intro p3 np3
    have ap_p3_a : p3 ≠ a := ne_none' np3 (by walk_at "hp")
    with_reducible refine Rd.nil (Rd.laid (by walk_at "ll") ?_)
    intro p1 np1
    have ap_p1_a : p1 ≠ a := ne_none' np1 (by walk_at "hp")
    with_reducible refine Rd.cons (Rd.tup (Rd.cons (Rd.lst (Rd.nil (Rd.laid (by walk_at "ll") ?_)))))
    intro p5 np5
    have ap_p5_a : p5 ≠ a := ne_none' np5 (by walk_at "hp")
    with_reducible refine Rd.cons (Rd.un (Rd.c (Rd.iU (Rd.cons (Rd.c (Rd.cons (Rd.lst (Rd.nil (Rd.laid (by walk_at "ll") ?_)))))))))
    intro p6 np6
    have ap_p6_a : p6 ≠ a := ne_none' np6 (by walk_at "hp")
    with_reducible refine Rd.nil (Rd.laid (by walk_at "ll") ?_)
    intro p4 np4
    have ap_p4_a : p4 ≠ a := ne_none' np4 (by walk_at "hp")
    with_reducible refine Rd.cons (Rd.tup (Rd.cons (Rd.lst (Rd.nil (Rd.laid (by walk_at "ll") ?_)))))
    intro p8 np8
    have ap_p8_a : p8 ≠ a := ne_none' np8 (by walk_at "hp")
    with_reducible refine Rd.cons (Rd.c (Rd.cons (Rd.c (Rd.cons (Rd.lst (Rd.nil (Rd.laid (by walk_at "ll") ?_)))))))
    intro p9 np9
    have ap_p9_a : p9 ≠ a := ne_none' np9 (by walk_at "hp")
    with_reducible refine Rd.nil (Rd.laid (by walk_at "ll") ?_)
    intro p7 np7
    have ap_p7_a : p7 ≠ a := ne_none' np7 (by walk_at "hp")
    with_reducible refine Rd.cons (Rd.tup (Rd.cons (Rd.lst (Rd.nil (Rd.laid (by walk_at "ll") ?_)))))
    intro p11 np11
    have ap_p11_a : p11 ≠ a := ne_none' np11 (by walk_at "hp")
    with_reducible refine Rd.cons (Rd.c (Rd.cons (Rd.c (Rd.cons (Rd.lst (Rd.nil (Rd.laid (by walk_at "ll") ?_)))))))
    intro p12 np12
    have ap_p12_a : p12 ≠ a := ne_none' np12 (by walk_at "hp")
    with_reducible refine Rd.nil (Rd.laid (by walk_at "ll") ?_)
    intro p10 np10
    have ap_p10_a : p10 ≠ a := ne_none' np10 (by walk_at "hp")
    with_reducible refine Rd.cons (Rd.tup (Rd.cons (Rd.lst (Rd.nil (Rd.laid (by walk_at "ll") ?_)))))
    intro p14 np14
    have ap_p14_a : p14 ≠ a := ne_none' np14 (by walk_at "hp")
    with_reducible refine Rd.cons (Rd.c (Rd.cons (Rd.c (Rd.cons (Rd.lst (Rd.nil (Rd.laid (by walk_at "ll") ?_)))))))
    intro p15 np15
    have ap_p15_a : p15 ≠ a := ne_none' np15 (by walk_at "hp")
    with_reducible refine Rd.nil (Rd.laid (by walk_at "ll") ?_)
    intro p13 np13
    have ap_p13_a : p13 ≠ a := ne_none' np13 (by walk_at "hp")
    with_reducible refine Rd.cons (Rd.tup (Rd.cons (Rd.lst (Rd.nil (Rd.laid (by walk_at "ll") ?_)))))
    intro p17 np17
    have ap_p17_a : p17 ≠ a := ne_none' np17 (by walk_at "hp")
    with_reducible refine Rd.cons (Rd.c (Rd.cons (Rd.c (Rd.cons (Rd.lst (Rd.nil (Rd.laid (by walk_at "ll") ?_)))))))
    intro p18 np18
    have ap_p18_a : p18 ≠ a := ne_none' np18 (by walk_at "hp")
    with_reducible refine Rd.nil (Rd.laid (by walk_at "ll") ?_)
    intro p16 np16
    have ap_p16_a : p16 ≠ a := ne_none' np16 (by walk_at "hp")
    with_reducible refine Rd.nil (Rd.laid (by walk_at "ll") ?_)
    intro p0 np0
    have ap_p0_a : p0 ≠ a := ne_none' np0 (by walk_at "hp")
    with_reducible refine Rd.name ?_
    try dsimp only [Int.reduceToNat, List.set]
    refine Rd.comp (fun Hx => ∃ vs : List V, Same H Hx ∧ Hx p0 = some (.lst vs) ∧ p0 ≠ a ∧ vs.length = 6 ∧ ∀ v ∈ vs, RowB a Hx v) ⟨_, (by walk_at "frm"), (by walk_at "hp"), (by first | assumption | exact ne_none' np0 (by walk_at "hp")), (by rfl), ?_⟩ (fun Hw1 ⟨vs1, Sw1, lw1, nw1, e1, m1⟩ => ?_)
    · intro v hv
      simp only [List.mem_cons, List.mem_append, List.not_mem_nil, or_false] at hv
      rcases hv with rfl | rfl | rfl | rfl | rfl | rfl
      · exact ⟨_, _, _, _, _, rfl, (by walk_at "hp"), .inl (.inl ⟨_, rfl, by decide⟩)⟩
      · exact ⟨_, _, _, _, _, rfl, (by walk_at "hp"), .inl (.inl ⟨_, rfl, by decide⟩)⟩
      · exact ⟨_, _, _, _, _, rfl, (by walk_at "hp"), .inl (.inr (.inl ⟨_, rfl, by decide, by decide⟩))⟩
      · exact ⟨_, _, _, _, _, rfl, (by walk_at "hp"), .inl (.inr (.inr (.inl rfl)))⟩
      · exact ⟨_, _, _, _, _, rfl, (by walk_at "hp"), .inl (.inr (.inr (.inr (.inl ⟨_, rfl⟩))))⟩
      · exact ⟨_, _, _, _, _, rfl, (by walk_at "hp"), .inl (.inr (.inr (.inr (.inr ⟨_, rfl⟩))))⟩
    with_reducible refine Rd.seq (Rd.asg (Rd.op (Rd.var (by walk_at "vr") (Rd.lst (Rd.cons (Rd.tup (Rd.cons (Rd.lst (Rd.nil (Rd.laid (by walk_at "ll") ?_))))))))))
    intro p21 np21
    have ap_p21_a : p21 ≠ a := ne_none' np21 (by walk_at "hp")
    with_reducible refine Rd.cons (Rd.c (Rd.cons (Rd.c (Rd.cons (Rd.lst (Rd.nil (Rd.laid (by walk_at "ll") ?_)))))))
    intro p22 np22
    have ap_p22_a : p22 ≠ a := ne_none' np22 (by walk_at "hp")
    with_reducible refine Rd.nil (Rd.laid (by walk_at "ll") ?_)
    intro p20 np20
    have ap_p20_a : p20 ≠ a := ne_none' np20 (by walk_at "hp")
    with_reducible refine Rd.cons (Rd.tup (Rd.cons (Rd.lst (Rd.nil (Rd.laid (by walk_at "ll") ?_)))))
    intro p24 np24
    have ap_p24_a : p24 ≠ a := ne_none' np24 (by walk_at "hp")
    with_reducible refine Rd.cons (Rd.c (Rd.cons (Rd.un (Rd.c (Rd.iU (Rd.cons (Rd.lst (Rd.nil (Rd.laid (by walk_at "ll") ?_)))))))))
    intro p25 np25
    have ap_p25_a : p25 ≠ a := ne_none' np25 (by walk_at "hp")
    with_reducible refine Rd.nil (Rd.laid (by walk_at "ll") ?_)
    intro p23 np23
    have ap_p23_a : p23 ≠ a := ne_none' np23 (by walk_at "hp")
    with_reducible refine Rd.cons (Rd.tup (Rd.cons (Rd.lst (Rd.nil (Rd.laid (by walk_at "ll") ?_)))))
    intro p27 np27
    have ap_p27_a : p27 ≠ a := ne_none' np27 (by walk_at "hp")
    with_reducible refine Rd.cons (Rd.c (Rd.cons (Rd.c (Rd.cons (Rd.lst (Rd.nil (Rd.laid (by walk_at "ll") ?_)))))))
    intro p28 np28
    have ap_p28_a : p28 ≠ a := ne_none' np28 (by walk_at "hp")
    with_reducible refine Rd.nil (Rd.laid (by walk_at "ll") ?_)
    intro p26 np26
    have ap_p26_a : p26 ≠ a := ne_none' np26 (by walk_at "hp")
    with_reducible refine Rd.cons (Rd.tup (Rd.cons (Rd.lst (Rd.nil (Rd.laid (by walk_at "ll") ?_)))))
    intro p30 np30
    have ap_p30_a : p30 ≠ a := ne_none' np30 (by walk_at "hp")
    with_reducible refine Rd.cons (Rd.c (Rd.cons (Rd.c (Rd.cons (Rd.lst (Rd.nil (Rd.laid (by walk_at "ll") ?_)))))))
    intro p31 np31
    have ap_p31_a : p31 ≠ a := ne_none' np31 (by walk_at "hp")
    with_reducible refine Rd.nil (Rd.laid (by walk_at "ll") ?_)
    intro p29 np29
    have ap_p29_a : p29 ≠ a := ne_none' np29 (by walk_at "hp")
    with_reducible refine Rd.cons (Rd.tup (Rd.cons (Rd.lst (Rd.nil (Rd.laid (by walk_at "ll") ?_)))))
    intro p33 np33
    have ap_p33_a : p33 ≠ a := ne_none' np33 (by walk_at "hp")
    with_reducible refine Rd.cons (Rd.c (Rd.cons (Rd.c (Rd.cons (Rd.lst (Rd.cons (Rd.c (Rd.nil (Rd.laid (by walk_at "ll") ?_)))))))))
    intro p34 np34
    have ap_p34_a : p34 ≠ a := ne_none' np34 (by walk_at "hp")
    with_reducible refine Rd.nil (Rd.laid (by walk_at "ll") ?_)
    intro p32 np32
    have ap_p32_a : p32 ≠ a := ne_none' np32 (by walk_at "hp")
    with_reducible refine Rd.nil (Rd.laid (by walk_at "ll") ?_)
    intro p19 np19
    have ap_p19_a : p19 ≠ a := ne_none' np19 (by walk_at "hp")
    with_reducible refine Rd.catL (by walk_at "hp") (by walk_at "hp") (by walk_at "ll") ?_
    intro c1 nc1
    with_reducible refine Rd.name ?_
    try dsimp only [Int.reduceToNat, List.set]
    refine Rd.comp (fun Hx => ∃ vs : List V, Same H Hx ∧ Hx c1 = some (.lst vs) ∧ c1 ≠ a ∧ vs.length = 11 ∧ ∀ v ∈ vs, RowB a Hx v) ⟨_, (by walk_at "frm"), (by walk_at "hp"), (by first | assumption | exact ne_none' nc1 (by walk_at "hp")), (by rw [List.length_append, e1]; rfl), ?_⟩ (fun Hw2 ⟨vs2, Sw2, lw2, nw2, e2, m2⟩ => ?_)
    · intro v hv
      simp only [List.mem_cons, List.mem_append, List.not_mem_nil, or_false] at hv
      rcases hv with hv | rfl | rfl | rfl | rfl | rfl
      · exact (m1 v hv).same (by walk_at "frm")
      · exact ⟨_, _, _, _, _, rfl, (by walk_at "hp"), .inr ⟨_, rfl, by decide, by decide, .inl (.inl ⟨_, rfl, by decide⟩)⟩⟩
      · exact ⟨_, _, _, _, _, rfl, (by walk_at "hp"), .inr ⟨_, rfl, by decide, by decide, .inl (.inl ⟨_, rfl, by decide⟩)⟩⟩
      · exact ⟨_, _, _, _, _, rfl, (by walk_at "hp"), .inr ⟨_, rfl, by decide, by decide, .inl (.inr (.inl ⟨_, rfl, by decide, by decide⟩))⟩⟩
      · exact ⟨_, _, _, _, _, rfl, (by walk_at "hp"), .inr ⟨_, rfl, by decide, by decide, .inl (.inr (.inr (.inl rfl)))⟩⟩
      · exact ⟨_, _, _, _, _, rfl, (by walk_at "hp"), .inr ⟨_, rfl, by decide, by decide, .inl (.inr (.inr (.inr (.inl ⟨_, rfl⟩))))⟩⟩
    with_reducible refine Rd.seq (Rd.asg (Rd.op (Rd.var (by walk_at "vr") (Rd.lst (Rd.cons (Rd.tup (Rd.cons (Rd.lst (Rd.cons (Rd.c (Rd.nil ?_)))))))))))
    with_reducible refine Rd.laid (by walk_at "ll") ?_
    intro p37 np37
    have ap_p37_a : p37 ≠ a := ne_none' np37 (by walk_at "hp")
    with_reducible refine Rd.cons (Rd.c (Rd.cons (Rd.c (Rd.cons (Rd.lst (Rd.cons (Rd.c (Rd.nil (Rd.laid (by walk_at "ll") ?_)))))))))
    intro p38 np38
    have ap_p38_a : p38 ≠ a := ne_none' np38 (by walk_at "hp")
    with_reducible refine Rd.nil (Rd.laid (by walk_at "ll") ?_)
    intro p36 np36
    have ap_p36_a : p36 ≠ a := ne_none' np36 (by walk_at "hp")
    with_reducible refine Rd.cons (Rd.tup (Rd.cons (Rd.lst (Rd.cons (Rd.c (Rd.nil (Rd.laid (by walk_at "ll") ?_)))))))
    intro p40 np40
    have ap_p40_a : p40 ≠ a := ne_none' np40 (by walk_at "hp")
    with_reducible refine Rd.cons (Rd.c (Rd.cons (Rd.c (Rd.cons (Rd.lst (Rd.nil (Rd.laid (by walk_at "ll") ?_)))))))
    intro p41 np41
    have ap_p41_a : p41 ≠ a := ne_none' np41 (by walk_at "hp")
    with_reducible refine Rd.nil (Rd.laid (by walk_at "ll") ?_)
    intro p39 np39
    have ap_p39_a : p39 ≠ a := ne_none' np39 (by walk_at "hp")
    with_reducible refine Rd.cons (Rd.tup (Rd.cons (Rd.lst (Rd.cons (Rd.c (Rd.nil (Rd.laid (by walk_at "ll") ?_)))))))
    intro p43 np43
    have ap_p43_a : p43 ≠ a := ne_none' np43 (by walk_at "hp")
    with_reducible refine Rd.cons (Rd.c (Rd.cons (Rd.c (Rd.cons (Rd.lst (Rd.nil (Rd.laid (by walk_at "ll") ?_)))))))
    intro p44 np44
    have ap_p44_a : p44 ≠ a := ne_none' np44 (by walk_at "hp")
    with_reducible refine Rd.nil (Rd.laid (by walk_at "ll") ?_)
    intro p42 np42
    have ap_p42_a : p42 ≠ a := ne_none' np42 (by walk_at "hp")
    with_reducible refine Rd.cons (Rd.tup (Rd.cons (Rd.lst (Rd.cons (Rd.c (Rd.cons (Rd.c (Rd.nil (Rd.laid (by walk_at "ll") ?_)))))))))
    intro p46 np46
    have ap_p46_a : p46 ≠ a := ne_none' np46 (by walk_at "hp")
    with_reducible refine Rd.cons (Rd.c (Rd.cons (Rd.c (Rd.cons (Rd.lst (Rd.nil (Rd.laid (by walk_at "ll") ?_)))))))
    intro p47 np47
    have ap_p47_a : p47 ≠ a := ne_none' np47 (by walk_at "hp")
    with_reducible refine Rd.nil (Rd.laid (by walk_at "ll") ?_)
    intro p45 np45
    have ap_p45_a : p45 ≠ a := ne_none' np45 (by walk_at "hp")
    with_reducible refine Rd.cons (Rd.tup (Rd.cons (Rd.lst (Rd.cons (Rd.c (Rd.cons (Rd.c (Rd.nil (Rd.laid (by walk_at "ll") ?_)))))))))
    intro p49 np49
    have ap_p49_a : p49 ≠ a := ne_none' np49 (by walk_at "hp")
    with_reducible refine Rd.cons (Rd.c (Rd.cons (Rd.c (Rd.cons (Rd.lst (Rd.nil (Rd.laid (by walk_at "ll") ?_)))))))
    intro p50 np50
    have ap_p50_a : p50 ≠ a := ne_none' np50 (by walk_at "hp")
    with_reducible refine Rd.nil (Rd.laid (by walk_at "ll") ?_)
    intro p48 np48
    have ap_p48_a : p48 ≠ a := ne_none' np48 (by walk_at "hp")
    with_reducible refine Rd.nil (Rd.laid (by walk_at "ll") ?_)
    intro p35 np35
    have ap_p35_a : p35 ≠ a := ne_none' np35 (by walk_at "hp")
    with_reducible refine Rd.catL (by walk_at "hp") (by walk_at "hp") (by walk_at "ll") ?_
    intro c2 nc2
    with_reducible refine Rd.name ?_
    try dsimp only [Int.reduceToNat, List.set]
    refine Rd.comp (fun Hx => ∃ vs : List V, Same H Hx ∧ Hx c2 = some (.lst vs) ∧ c2 ≠ a ∧ vs.length = 16 ∧ ∀ v ∈ vs, RowB a Hx v) ⟨_, (by walk_at "frm"), (by walk_at "hp"), (by first | assumption | exact ne_none' nc2 (by walk_at "hp")), (by rw [List.length_append, e2]; rfl), ?_⟩ (fun Hw3 ⟨vs3, Sw3, lw3, nw3, e3, m3⟩ => ?_)
    · intro v hv
      simp only [List.mem_cons, List.mem_append, List.not_mem_nil, or_false] at hv
      rcases hv with hv | rfl | rfl | rfl | rfl | rfl
      · exact (m2 v hv).same (by walk_at "frm")
      · exact ⟨_, _, _, _, _, rfl, (by walk_at "hp"), .inr ⟨_, rfl, by decide, by decide, .inr ⟨_, rfl, by decide, by decide, .inl (.inr (.inl ⟨_, ⟨_, rfl, (by assumption), (by walk_at "hp")⟩, .inr (.inl ⟨_, rfl, by decide, by decide⟩)⟩))⟩⟩⟩
      · exact ⟨_, _, _, _, _, rfl, (by walk_at "hp"), .inr ⟨_, rfl, by decide, by decide, .inr ⟨_, rfl, by decide, by decide, .inl (.inr (.inl ⟨_, ⟨_, rfl, (by assumption), (by walk_at "hp")⟩, .inl ⟨_, rfl, by decide⟩⟩))⟩⟩⟩
      · exact ⟨_, _, _, _, _, rfl, (by walk_at "hp"), .inr ⟨_, rfl, by decide, by decide, .inr ⟨_, rfl, by decide, by decide, .inl (.inr (.inl ⟨_, ⟨_, rfl, (by assumption), (by walk_at "hp")⟩, .inr (.inl ⟨_, rfl, by decide, by decide⟩)⟩))⟩⟩⟩
      · exact ⟨_, _, _, _, _, rfl, (by walk_at "hp"), .inr ⟨_, rfl, by decide, by decide, .inr ⟨_, rfl, by decide, by decide, .inl (.inr (.inr ⟨_, _, ⟨_, rfl, (by assumption), (by walk_at "hp")⟩, by decide, by decide, .inl ⟨_, rfl, by decide⟩⟩))⟩⟩⟩
      · exact ⟨_, _, _, _, _, rfl, (by walk_at "hp"), .inr ⟨_, rfl, by decide, by decide, .inr ⟨_, rfl, by decide, by decide, .inl (.inr (.inr ⟨_, _, ⟨_, rfl, (by assumption), (by walk_at "hp")⟩, by decide, by decide, .inl ⟨_, rfl, by decide⟩⟩))⟩⟩⟩
    with_reducible refine Rd.seq (Rd.asg (Rd.op (Rd.var (by walk_at "vr") (Rd.lst (Rd.cons (Rd.tup (Rd.cons (Rd.tup (Rd.cons (Rd.c (Rd.nil ?_)))))))))))
    with_reducible refine Rd.laid (by walk_at "ll") ?_
    intro p53 np53
    have ap_p53_a : p53 ≠ a := ne_none' np53 (by walk_at "hp")
    with_reducible refine Rd.cons (Rd.c (Rd.cons (Rd.c (Rd.cons (Rd.lst (Rd.nil (Rd.laid (by walk_at "ll") ?_)))))))
    intro p54 np54
    have ap_p54_a : p54 ≠ a := ne_none' np54 (by walk_at "hp")
    with_reducible refine Rd.nil (Rd.laid (by walk_at "ll") ?_)
    intro p52 np52
    have ap_p52_a : p52 ≠ a := ne_none' np52 (by walk_at "hp")
    with_reducible refine Rd.cons (Rd.tup (Rd.cons (Rd.c (Rd.cons (Rd.c (Rd.cons (Rd.c (Rd.cons (Rd.lst (Rd.nil (Rd.laid (by walk_at "ll") ?_)))))))))))
    intro p56 np56
    have ap_p56_a : p56 ≠ a := ne_none' np56 (by walk_at "hp")
    with_reducible refine Rd.nil (Rd.laid (by walk_at "ll") ?_)
    intro p55 np55
    have ap_p55_a : p55 ≠ a := ne_none' np55 (by walk_at "hp")
    with_reducible refine Rd.cons (Rd.tup (Rd.cons (Rd.lst (Rd.cons (Rd.c (Rd.nil (Rd.laid (by walk_at "ll") ?_)))))))
    intro p58 np58
    have ap_p58_a : p58 ≠ a := ne_none' np58 (by walk_at "hp")
    with_reducible refine Rd.cons (Rd.c (Rd.cons (Rd.c (Rd.cons (Rd.lst (Rd.nil (Rd.laid (by walk_at "ll") ?_)))))))
    intro p59 np59
    have ap_p59_a : p59 ≠ a := ne_none' np59 (by walk_at "hp")
    with_reducible refine Rd.nil (Rd.laid (by walk_at "ll") ?_)
    intro p57 np57
    have ap_p57_a : p57 ≠ a := ne_none' np57 (by walk_at "hp")
    with_reducible refine Rd.cons (Rd.tup (Rd.cons (Rd.lst (Rd.cons (Rd.c (Rd.nil (Rd.laid (by walk_at "ll") ?_)))))))
    intro p61 np61
    have ap_p61_a : p61 ≠ a := ne_none' np61 (by walk_at "hp")
    with_reducible refine Rd.cons (Rd.c (Rd.cons (Rd.c (Rd.cons (Rd.lst (Rd.nil (Rd.laid (by walk_at "ll") ?_)))))))
    intro p62 np62
    have ap_p62_a : p62 ≠ a := ne_none' np62 (by walk_at "hp")
    with_reducible refine Rd.nil (Rd.laid (by walk_at "ll") ?_)
    intro p60 np60
    have ap_p60_a : p60 ≠ a := ne_none' np60 (by walk_at "hp")
    with_reducible refine Rd.cons (Rd.tup (Rd.cons (Rd.lst (Rd.cons (Rd.c (Rd.nil (Rd.laid (by walk_at "ll") ?_)))))))
    intro p64 np64
    have ap_p64_a : p64 ≠ a := ne_none' np64 (by walk_at "hp")
    with_reducible refine Rd.cons (Rd.c (Rd.cons (Rd.c (Rd.cons (Rd.lst (Rd.nil (Rd.laid (by walk_at "ll") ?_)))))))
    intro p65 np65
    have ap_p65_a : p65 ≠ a := ne_none' np65 (by walk_at "hp")
    with_reducible refine Rd.nil (Rd.laid (by walk_at "ll") ?_)
    intro p63 np63
    have ap_p63_a : p63 ≠ a := ne_none' np63 (by walk_at "hp")
    with_reducible refine Rd.cons (Rd.tup (Rd.cons (Rd.c (Rd.cons (Rd.c (Rd.cons (Rd.c (Rd.cons (Rd.lst (Rd.nil (Rd.laid (by walk_at "ll") ?_)))))))))))
    intro p67 np67
    have ap_p67_a : p67 ≠ a := ne_none' np67 (by walk_at "hp")
    with_reducible refine Rd.nil (Rd.laid (by walk_at "ll") ?_)
    intro p66 np66
    have ap_p66_a : p66 ≠ a := ne_none' np66 (by walk_at "hp")
    with_reducible refine Rd.nil (Rd.laid (by walk_at "ll") ?_)
    intro p51 np51
    have ap_p51_a : p51 ≠ a := ne_none' np51 (by walk_at "hp")
    with_reducible refine Rd.catL (by walk_at "hp") (by walk_at "hp") (by walk_at "ll") ?_
    intro c3 nc3
    with_reducible refine Rd.name ?_
    try dsimp only [Int.reduceToNat, List.set]
    refine Rd.comp (fun Hx => ∃ vs : List V, Same H Hx ∧ Hx c3 = some (.lst vs) ∧ c3 ≠ a ∧ vs.length = 22 ∧ ∀ v ∈ vs, RowB a Hx v) ⟨_, (by walk_at "frm"), (by walk_at "hp"), (by first | assumption | exact ne_none' nc3 (by walk_at "hp")), (by rw [List.length_append, e3]; rfl), ?_⟩ (fun Hw4 ⟨vs4, Sw4, lw4, nw4, e4, m4⟩ => ?_)
    · intro v hv
      simp only [List.mem_cons, List.mem_append, List.not_mem_nil, or_false] at hv
      rcases hv with hv | rfl | rfl | rfl | rfl | rfl | rfl
      · exact (m3 v hv).same (by walk_at "frm")
      · exact ⟨_, _, _, _, _, rfl, (by walk_at "hp"), .inr ⟨_, rfl, by decide, by decide, .inr ⟨_, rfl, by decide, by decide, .inl (.inl (.inr (.inr (.inl ⟨_, _, rfl, (by walk_at "hp")⟩))))⟩⟩⟩
      · exact ⟨_, _, _, _, _, rfl, (by walk_at "hp"), .inr ⟨_, rfl, by decide, by decide, .inr ⟨_, rfl, by decide, by decide, .inl (.inl (.inl rfl))⟩⟩⟩
      · exact ⟨_, _, _, _, _, rfl, (by walk_at "hp"), .inr ⟨_, rfl, by decide, by decide, .inr ⟨_, rfl, by decide, by decide, .inl (.inr (.inl ⟨_, ⟨_, rfl, (by assumption), (by walk_at "hp")⟩, .inr (.inr (.inl rfl))⟩))⟩⟩⟩
      · exact ⟨_, _, _, _, _, rfl, (by walk_at "hp"), .inr ⟨_, rfl, by decide, by decide, .inr ⟨_, rfl, by decide, by decide, .inl (.inr (.inl ⟨_, ⟨_, rfl, (by assumption), (by walk_at "hp")⟩, .inr (.inr (.inr (.inl ⟨_, rfl⟩)))⟩))⟩⟩⟩
      · exact ⟨_, _, _, _, _, rfl, (by walk_at "hp"), .inr ⟨_, rfl, by decide, by decide, .inr ⟨_, rfl, by decide, by decide, .inl (.inr (.inl ⟨_, ⟨_, rfl, (by assumption), (by walk_at "hp")⟩, .inr (.inr (.inr (.inr ⟨_, rfl⟩)))⟩))⟩⟩⟩
      · exact ⟨_, _, _, _, _, rfl, (by walk_at "hp"), .inr ⟨_, rfl, by decide, by decide, .inr ⟨_, rfl, by decide, by decide, .inl (.inl (.inr (.inl ⟨_, rfl⟩)))⟩⟩⟩
    with_reducible refine Rd.seq (Rd.asg (Rd.op (Rd.var (by walk_at "vr") (Rd.lst (Rd.cons (Rd.tup (Rd.cons (Rd.lst (Rd.nil (Rd.laid (by walk_at "ll") ?_))))))))))
    intro p70 np70
    have ap_p70_a : p70 ≠ a := ne_none' np70 (by walk_at "hp")
    with_reducible refine Rd.cons (Rd.c (Rd.cons (Rd.c (Rd.cons (Rd.lst (Rd.cons (Rd.c (Rd.nil (Rd.laid (by walk_at "ll") ?_)))))))))
    intro p71 np71
    have ap_p71_a : p71 ≠ a := ne_none' np71 (by walk_at "hp")
    with_reducible refine Rd.nil (Rd.laid (by walk_at "ll") ?_)
    intro p69 np69
    have ap_p69_a : p69 ≠ a := ne_none' np69 (by walk_at "hp")
    with_reducible refine Rd.cons (Rd.tup (Rd.cons (Rd.lst (Rd.nil (Rd.laid (by walk_at "ll") ?_)))))
    intro p73 np73
    have ap_p73_a : p73 ≠ a := ne_none' np73 (by walk_at "hp")
    with_reducible refine Rd.cons (Rd.c (Rd.cons (Rd.c (Rd.cons (Rd.lst (Rd.cons (Rd.un (Rd.c (Rd.iU (Rd.nil (Rd.laid (by walk_at "ll") ?_)))))))))))
    intro p74 np74
    have ap_p74_a : p74 ≠ a := ne_none' np74 (by walk_at "hp")
    with_reducible refine Rd.nil (Rd.laid (by walk_at "ll") ?_)
    intro p72 np72
    have ap_p72_a : p72 ≠ a := ne_none' np72 (by walk_at "hp")
    with_reducible refine Rd.cons (Rd.tup (Rd.cons (Rd.lst (Rd.nil (Rd.laid (by walk_at "ll") ?_)))))
    intro p76 np76
    have ap_p76_a : p76 ≠ a := ne_none' np76 (by walk_at "hp")
    with_reducible refine Rd.cons (Rd.c (Rd.cons (Rd.c (Rd.cons (Rd.lst (Rd.cons (Rd.c (Rd.cons (Rd.c (Rd.nil (Rd.laid (by walk_at "ll") ?_)))))))))))
    intro p77 np77
    have ap_p77_a : p77 ≠ a := ne_none' np77 (by walk_at "hp")
    with_reducible refine Rd.nil (Rd.laid (by walk_at "ll") ?_)
    intro p75 np75
    have ap_p75_a : p75 ≠ a := ne_none' np75 (by walk_at "hp")
    with_reducible refine Rd.cons (Rd.tup (Rd.cons (Rd.lst (Rd.nil (Rd.laid (by walk_at "ll") ?_)))))
    intro p79 np79
    have ap_p79_a : p79 ≠ a := ne_none' np79 (by walk_at "hp")
    with_reducible refine Rd.cons (Rd.c (Rd.cons (Rd.c (Rd.cons (Rd.lst (Rd.cons (Rd.c (Rd.cons (Rd.c (Rd.nil (Rd.laid (by walk_at "ll") ?_)))))))))))
    intro p80 np80
    have ap_p80_a : p80 ≠ a := ne_none' np80 (by walk_at "hp")
    with_reducible refine Rd.nil (Rd.laid (by walk_at "ll") ?_)
    intro p78 np78
    have ap_p78_a : p78 ≠ a := ne_none' np78 (by walk_at "hp")
    with_reducible refine Rd.cons (Rd.tup (Rd.cons (Rd.lst (Rd.nil (Rd.laid (by walk_at "ll") ?_)))))
    intro p82 np82
    have ap_p82_a : p82 ≠ a := ne_none' np82 (by walk_at "hp")
    with_reducible refine Rd.cons (Rd.c (Rd.cons (Rd.c (Rd.cons (Rd.tup (Rd.cons (Rd.c (Rd.nil (Rd.laid (by walk_at "ll") ?_)))))))))
    intro p83 np83
    have ap_p83_a : p83 ≠ a := ne_none' np83 (by walk_at "hp")
    with_reducible refine Rd.nil (Rd.laid (by walk_at "ll") ?_)
    intro p81 np81
    have ap_p81_a : p81 ≠ a := ne_none' np81 (by walk_at "hp")
    with_reducible refine Rd.nil (Rd.laid (by walk_at "ll") ?_)
    intro p68 np68
    have ap_p68_a : p68 ≠ a := ne_none' np68 (by walk_at "hp")
    with_reducible refine Rd.catL (by walk_at "hp") (by walk_at "hp") (by walk_at "ll") ?_
    intro c4 nc4
    with_reducible refine Rd.name ?_
    try dsimp only [Int.reduceToNat, List.set]
    refine Rd.comp (fun Hx => ∃ vs : List V, Same H Hx ∧ Hx c4 = some (.lst vs) ∧ c4 ≠ a ∧ vs.length = 27 ∧ ∀ v ∈ vs, RowB a Hx v) ⟨_, (by walk_at "frm"), (by walk_at "hp"), (by first | assumption | exact ne_none' nc4 (by walk_at "hp")), (by rw [List.length_append, e4]; rfl), ?_⟩ (fun Hw5 ⟨vs5, Sw5, lw5, nw5, e5, m5⟩ => ?_)
    · intro v hv
      simp only [List.mem_cons, List.mem_append, List.not_mem_nil, or_false] at hv
      rcases hv with hv | rfl | rfl | rfl | rfl | rfl
      · exact (m4 v hv).same (by walk_at "frm")
      · exact ⟨_, _, _, _, _, rfl, (by walk_at "hp"), .inr ⟨_, rfl, by decide, by decide, .inr ⟨_, rfl, by decide, by decide, .inr ⟨⟨_, rfl, (by assumption), (by walk_at "hp")⟩, .inr (.inl ⟨_, ⟨_, rfl, (by assumption), (by walk_at "hp")⟩, .inr (.inl ⟨_, rfl, by decide, by decide⟩)⟩)⟩⟩⟩⟩
      · exact ⟨_, _, _, _, _, rfl, (by walk_at "hp"), .inr ⟨_, rfl, by decide, by decide, .inr ⟨_, rfl, by decide, by decide, .inr ⟨⟨_, rfl, (by assumption), (by walk_at "hp")⟩, .inr (.inl ⟨_, ⟨_, rfl, (by assumption), (by walk_at "hp")⟩, .inl ⟨_, rfl, by decide⟩⟩)⟩⟩⟩⟩
      · exact ⟨_, _, _, _, _, rfl, (by walk_at "hp"), .inr ⟨_, rfl, by decide, by decide, .inr ⟨_, rfl, by decide, by decide, .inr ⟨⟨_, rfl, (by assumption), (by walk_at "hp")⟩, .inr (.inr ⟨_, _, ⟨_, rfl, (by assumption), (by walk_at "hp")⟩, by decide, by decide, .inl ⟨_, rfl, by decide⟩⟩)⟩⟩⟩⟩
      · exact ⟨_, _, _, _, _, rfl, (by walk_at "hp"), .inr ⟨_, rfl, by decide, by decide, .inr ⟨_, rfl, by decide, by decide, .inr ⟨⟨_, rfl, (by assumption), (by walk_at "hp")⟩, .inr (.inr ⟨_, _, ⟨_, rfl, (by assumption), (by walk_at "hp")⟩, by decide, by decide, .inl ⟨_, rfl, by decide⟩⟩)⟩⟩⟩⟩
      · exact ⟨_, _, _, _, _, rfl, (by walk_at "hp"), .inr ⟨_, rfl, by decide, by decide, .inr ⟨_, rfl, by decide, by decide, .inr ⟨⟨_, rfl, (by assumption), (by walk_at "hp")⟩, .inl (.inr (.inr (.inl ⟨_, _, rfl, (by walk_at "hp")⟩)))⟩⟩⟩⟩
    with_reducible refine Rd.seq (Rd.asg (Rd.op (Rd.var (by walk_at "vr") (Rd.lst (Rd.cons (Rd.tup (Rd.cons (Rd.lst (Rd.nil (Rd.laid (by walk_at "ll") ?_))))))))))
    intro p86 np86
    have ap_p86_a : p86 ≠ a := ne_none' np86 (by walk_at "hp")
    with_reducible refine Rd.cons (Rd.c (Rd.cons (Rd.c (Rd.cons (Rd.c (Rd.nil (Rd.laid (by walk_at "ll") ?_)))))))
    intro p85 np85
    have ap_p85_a : p85 ≠ a := ne_none' np85 (by walk_at "hp")
    with_reducible refine Rd.cons (Rd.tup (Rd.cons (Rd.lst (Rd.nil (Rd.laid (by walk_at "ll") ?_)))))
    intro p88 np88
    have ap_p88_a : p88 ≠ a := ne_none' np88 (by walk_at "hp")
    with_reducible refine Rd.cons (Rd.c (Rd.cons (Rd.c (Rd.cons (Rd.lst (Rd.cons (Rd.c (Rd.nil (Rd.laid (by walk_at "ll") ?_)))))))))
    intro p89 np89
    have ap_p89_a : p89 ≠ a := ne_none' np89 (by walk_at "hp")
    with_reducible refine Rd.nil (Rd.laid (by walk_at "ll") ?_)
    intro p87 np87
    have ap_p87_a : p87 ≠ a := ne_none' np87 (by walk_at "hp")
    with_reducible refine Rd.cons (Rd.tup (Rd.cons (Rd.lst (Rd.nil (Rd.laid (by walk_at "ll") ?_)))))
    intro p91 np91
    have ap_p91_a : p91 ≠ a := ne_none' np91 (by walk_at "hp")
    with_reducible refine Rd.cons (Rd.c (Rd.cons (Rd.c (Rd.cons (Rd.lst (Rd.cons (Rd.c (Rd.nil (Rd.laid (by walk_at "ll") ?_)))))))))
    intro p92 np92
    have ap_p92_a : p92 ≠ a := ne_none' np92 (by walk_at "hp")
    with_reducible refine Rd.nil (Rd.laid (by walk_at "ll") ?_)
    intro p90 np90
    have ap_p90_a : p90 ≠ a := ne_none' np90 (by walk_at "hp")
    with_reducible refine Rd.cons (Rd.tup (Rd.cons (Rd.lst (Rd.nil (Rd.laid (by walk_at "ll") ?_)))))
    intro p94 np94
    have ap_p94_a : p94 ≠ a := ne_none' np94 (by walk_at "hp")
    with_reducible refine Rd.cons (Rd.c (Rd.cons (Rd.c (Rd.cons (Rd.lst (Rd.cons (Rd.c (Rd.nil (Rd.laid (by walk_at "ll") ?_)))))))))
    intro p95 np95
    have ap_p95_a : p95 ≠ a := ne_none' np95 (by walk_at "hp")
    with_reducible refine Rd.nil (Rd.laid (by walk_at "ll") ?_)
    intro p93 np93
    have ap_p93_a : p93 ≠ a := ne_none' np93 (by walk_at "hp")
    with_reducible refine Rd.cons (Rd.tup (Rd.cons (Rd.newK ?_)))
    intro pd212_108 npd212_108
    with_reducible refine Rd.cons (Rd.c (Rd.cons (Rd.c (Rd.cons (Rd.lst (Rd.nil (Rd.laid (by walk_at "ll") ?_)))))))
    intro p97 np97
    have ap_p97_a : p97 ≠ a := ne_none' np97 (by walk_at "hp")
    with_reducible refine Rd.nil (Rd.laid (by walk_at "ll") ?_)
    intro p96 np96
    have ap_p96_a : p96 ≠ a := ne_none' np96 (by walk_at "hp")
    with_reducible refine Rd.nil (Rd.laid (by walk_at "ll") ?_)
    intro p84 np84
    have ap_p84_a : p84 ≠ a := ne_none' np84 (by walk_at "hp")
    with_reducible refine Rd.catL (by walk_at "hp") (by walk_at "hp") (by walk_at "ll") ?_
    intro c5 nc5
    with_reducible refine Rd.name ?_
    try dsimp only [Int.reduceToNat, List.set]
    refine Rd.comp (fun Hx => ∃ vs : List V, Same H Hx ∧ Hx c5 = some (.lst vs) ∧ c5 ≠ a ∧ vs.length = 32 ∧ ∀ v ∈ vs, RowB a Hx v) ⟨_, (by walk_at "frm"), (by walk_at "hp"), (by first | assumption | exact ne_none' nc5 (by walk_at "hp")), (by rw [List.length_append, e5]; rfl), ?_⟩ (fun Hw6 ⟨vs6, Sw6, lw6, nw6, e6, m6⟩ => ?_)
    · intro v hv
      simp only [List.mem_cons, List.mem_append, List.not_mem_nil, or_false] at hv
      rcases hv with hv | rfl | rfl | rfl | rfl | rfl
      · exact (m5 v hv).same (by walk_at "frm")
      · exact ⟨_, _, _, _, _, rfl, (by walk_at "hp"), .inr ⟨_, rfl, by decide, by decide, .inr ⟨_, rfl, by decide, by decide, .inr ⟨⟨_, rfl, (by assumption), (by walk_at "hp")⟩, .inl (.inl rfl)⟩⟩⟩⟩
      · exact ⟨_, _, _, _, _, rfl, (by walk_at "hp"), .inr ⟨_, rfl, by decide, by decide, .inr ⟨_, rfl, by decide, by decide, .inr ⟨⟨_, rfl, (by assumption), (by walk_at "hp")⟩, .inr (.inl ⟨_, ⟨_, rfl, (by assumption), (by walk_at "hp")⟩, .inr (.inr (.inl rfl))⟩)⟩⟩⟩⟩
      · exact ⟨_, _, _, _, _, rfl, (by walk_at "hp"), .inr ⟨_, rfl, by decide, by decide, .inr ⟨_, rfl, by decide, by decide, .inr ⟨⟨_, rfl, (by assumption), (by walk_at "hp")⟩, .inr (.inl ⟨_, ⟨_, rfl, (by assumption), (by walk_at "hp")⟩, .inr (.inr (.inr (.inl ⟨_, rfl⟩)))⟩)⟩⟩⟩⟩
      · exact ⟨_, _, _, _, _, rfl, (by walk_at "hp"), .inr ⟨_, rfl, by decide, by decide, .inr ⟨_, rfl, by decide, by decide, .inr ⟨⟨_, rfl, (by assumption), (by walk_at "hp")⟩, .inr (.inl ⟨_, ⟨_, rfl, (by assumption), (by walk_at "hp")⟩, .inr (.inr (.inr (.inr ⟨_, rfl⟩)))⟩)⟩⟩⟩⟩
      · exact ⟨_, _, _, _, _, rfl, (by walk_at "hp"), .inr ⟨_, rfl, by decide, by decide, .inr ⟨_, rfl, by decide, by decide, .inl (.inl (.inr (.inr (.inr ⟨_, _, rfl, (by walk_at "hp")⟩))))⟩⟩⟩
    with_reducible refine Rd.ret (Rd.op (Rd.var (by walk_at "vr") (Rd.call (Rd.cons (Rd.var (by walk_at "vr") (Rd.cons (Rd.cB (Rd.cons (Rd.var (by walk_at "vr") (Rd.nil (⟨_, _, rfl, (by walk_at "hpq"), ?_⟩)))))))))))
    with_reducible refine Rd.nil ?_
    refine ⟨_, _, _, rfl, (by walk_at "hp"), (by walk_at "sc"), (by walk_at "sc"), (by walk_at "sc"), fun d1 o1 d1a d1b s1 => ?_⟩
    refine Rd.pickAny (by walk_at "hpl") d1a d1b (fun v hv => ?_)
    obtain ⟨x9, y9, rfl, _⟩ := id ho
    exact k _ _ _ (by walk_at "frm") (by walk_at "hp") (by assumption) (RowB.frm (show Frm a Hw6 _ from (by walk_at "frm")) (show Hw6 a = some _ from (by walk_at "hp")) (m6 v hv))
/-! law -/
theorem sc_law : FnScope ["_law_script", "_law_long_one", "_law_long_other", "_law_turn", "_law_source_here", "_law_early", "_law_start", "_law_period", "_law_rests", "_law_odd", "_law_way", "_law_none", "_law_every"] ["_law_script"] (defScope s_law) := ⟨rfl, rfl, rfl, by decide +kernel, rfl, by decide +kernel, by decide +kernel⟩
theorem st_law {v0 : V} : L2.start ["_law_script", "_law_long_one", "_law_long_other", "_law_turn", "_law_source_here", "_law_early", "_law_start", "_law_period", "_law_rests", "_law_odd", "_law_way", "_law_none", "_law_every"] [v0] = [some v0, none, none, none, none, none, none, none, none, none, none, none, none] := rfl
abbrev sp_law (K : PySem.W.Frag) : Sp := fun vs H Q _ => ∃ (a : Addr) (ns : List Int), vs = [.ref a] ∧ SqL K H a (ns.map V.int) ∧ ns.length ≤ 63 ∧ ∀ H', Q (.bl true) H'
theorem ok_law (T : Txt w K mg A) : FnOk P w K mg base CX0 10 A.f_law A.d_law ["_law_script"] (sp_law K) := by
  refine T.F_law.ok sc_law (fun vs H Q E h => ?_) (fun cdv Ar outer s H vs Q E hr h => ?_)
  · obtain ⟨a, ns, rfl, hS, hlen, k⟩ := h
    rfl
  · obtain ⟨a, ns, rfl, hS, hlen, k⟩ := h
    have hu := hu_of hr
    have t_i_SizeSet := T.i_SizeSet
    have t_kt_NoneType_SizeSet := T.kt_NoneType_SizeSet
    have t_kt_int_SizeSet := T.kt_int_SizeSet
    have t_kt_bool_SizeSet := T.kt_bool_SizeSet
    have t_kt_str_SizeSet := T.kt_str_SizeSet
    have t_kt_tuple_SizeSet := T.kt_tuple_SizeSet
    have t_kt_list_SizeSet := T.kt_list_SizeSet
    have t_kt_dict_SizeSet := T.kt_dict_SizeSet
    have t_kt_SizeSet_SizeSet := T.kt_SizeSet_SizeSet
    have t_nf_SizeSet_SizeSet := T.nf_SizeSet_SizeSet
    have t_nf_NoneType_SizeSet := T.nf_NoneType_SizeSet
    have t_nf_int_SizeSet := T.nf_int_SizeSet
    have t_nf_bool_SizeSet := T.nf_bool_SizeSet
    have t_nf_str_SizeSet := T.nf_str_SizeSet
    have t_nf_tuple_SizeSet := T.nf_tuple_SizeSet
    have t_nf_list_SizeSet := T.nf_list_SizeSet
    have t_nf_dict_SizeSet := T.nf_dict_SizeSet
    have t_kt_NoSet_in_NoForm := T.kt_NoSet_in_NoForm
    have t_kt_NoSet_in_NoCounter := T.kt_NoSet_in_NoCounter
    have t_kt_NoSet_in_NoScheme := T.kt_NoSet_in_NoScheme
    have t_kt_NoSet_in_NoSize := T.kt_NoSet_in_NoSize
    have t_kt_NoSet_in_NoRing := T.kt_NoSet_in_NoRing
    have t_kt_NoSet_in_Outside := T.kt_NoSet_in_Outside
    have t_kt_NoSet_in_NoRun := T.kt_NoSet_in_NoRun
    have t_kt_NoSet_in_NoSet := T.kt_NoSet_in_NoSet
    have t_kt_NoSet_in_TooLong := T.kt_NoSet_in_TooLong
    have t_kt_NoSet_in_VE := T.kt_NoSet_in_VE
    have t_xm_NoSet := T.xm_NoSet
    have t_kt_TooLong_in_NoForm := T.kt_TooLong_in_NoForm
    have t_kt_TooLong_in_NoCounter := T.kt_TooLong_in_NoCounter
    have t_kt_TooLong_in_NoScheme := T.kt_TooLong_in_NoScheme
    have t_kt_TooLong_in_NoSize := T.kt_TooLong_in_NoSize
    have t_kt_TooLong_in_NoRing := T.kt_TooLong_in_NoRing
    have t_kt_TooLong_in_Outside := T.kt_TooLong_in_Outside
    have t_kt_TooLong_in_NoRun := T.kt_TooLong_in_NoRun
    have t_kt_TooLong_in_NoSet := T.kt_TooLong_in_NoSet
    have t_kt_TooLong_in_TooLong := T.kt_TooLong_in_TooLong
    have t_kt_TooLong_in_VE := T.kt_TooLong_in_VE
    have t_xm_TooLong := T.xm_TooLong
    have t_k_SizeSet := T.k_SizeSet
    have okA : Rows.Ok ⟨[], 1, 71, [1]⟩ := ⟨by decide, by decide, trivial, ⟨by decide, by decide, trivial⟩⟩
    have okB : Rows.Ok ⟨[], 1, 73, [2, 3]⟩ := ⟨by decide, by decide, trivial, ⟨by decide, by decide, ⟨by decide, by decide, trivial⟩⟩⟩
    have okC : Rows.Ok ⟨[], 1, 8, [1]⟩ := ⟨by decide, by decide, trivial, ⟨by decide, by decide, trivial⟩⟩
    have okD : Rows.Ok ⟨[], 1, 625, [2]⟩ := ⟨by decide, by decide, trivial, ⟨by decide, by decide, trivial⟩⟩
    have okL : Rows.Ok ⟨[], 20000, 5000, [4999]⟩ := ⟨by decide, by decide, trivial, by exact ⟨by decide, by decide, trivial⟩⟩
    have e30 : (10 : Int) ^ Int.toNat 30 = 1000000000000000000000000000000 := by decide +kernel
    refine ⟨_, (pss_cons (ps_par (by rfl) sc_law.nd (i := 1) (j := 2) rfl rfl (by decide) rfl rfl (pa_cons (pe_make T.K_SizeSet (ok_SizeSetu__initu_ T) (hr.mono (by decide)) (by rfl) T.m_SizeSet T.b_SizeSetu__initu_ .nil Sta.passF (pa_cons (pe_lst pa_nil) (pa_cons pe_int (pa_cons pe_int (pa_cons (pe_lst (pa_cons pe_int pa_nil)) pa_nil))))) (pa_cons (pe_make T.K_SizeSet (ok_SizeSetu__initu_ T) (hr.mono (by decide)) (by rfl) T.m_SizeSet T.b_SizeSetu__initu_ .nil Sta.passF (pa_cons (pe_lst pa_nil) (pa_cons pe_int (pa_cons pe_int (pa_cons (pe_lst (pa_cons pe_int (pa_cons pe_int pa_nil))) pa_nil))))) pa_nil)) (by rfl))
      (pss_cons (ps_for PassesOwn.never rfl (pi_range1 (by rfl) T.n_range (pa_cons (pe_callB (call_max2 rfl) (by rfl) T.n_max (by decide +kernel) (pa_cons pe_int (pa_cons (pe_callB (call_min2 rfl) (by rfl) T.n_min (by decide +kernel) (pa_cons (pe_callB call_len_seq (by rfl) T.n_len PySem.boot_len (pa_cons (pv 0) pa_nil)) (pa_cons pe_int pa_nil))) pa_nil))) pa_nil)) (pg_name (i := 3) sc_law.nd rfl (Or.inl rfl)) (pss_cons (ps_set (i := 4) sc_law.nd rfl (Or.inl rfl) (pe_call (ok_l_source T) (hr.mono (by decide)) (by rfl) T.m_l_source T.F_l_source.kp T.b_l_source .nil pass0 (pa_cons (pv 0) (pa_cons (pv 3) pa_nil))))
      (pss_cons (ps_asg (pe_call (ok_l_wrong T) (hr.mono (by decide)) (by rfl) T.m_l_wrong T.F_l_wrong.kp T.b_l_wrong .nil pass0 (pa_cons (pv 4) pa_nil)) (pg_tup (by rfl) (pgs_cons (pg_name (i := 5) sc_law.nd rfl (Or.inl rfl)) (pgs_cons (pg_name (i := 6) sc_law.nd rfl (Or.inl rfl)) (pgs_cons (pg_name (i := 7) sc_law.nd rfl (Or.inl rfl)) (pgs_cons (pg_name (i := 8) sc_law.nd rfl (Or.inl rfl)) pgs_nil))))))
      (pss_cons (ps_if (pt_cmpR op_ne (pe_call (ok_l_made T) (hr.mono (by decide)) (by rfl) T.m_l_made T.F_l_made.kp T.b_l_made .nil pass0 (pa_cons (pv 5) (pa_cons (pv 6) (pa_cons (pv 7) (pa_cons (pv 8) pa_nil))))) pe_str (nomark _)) (pss_one ps_never) pss_nil)
      (pss_cons (ps_set (i := 9) sc_law.nd rfl (Or.inl rfl) (pe_call (ok_l_pick T) (hr.mono (by decide)) (by rfl) T.m_l_pick T.F_l_pick.kp T.b_l_pick .nil pass0 (pa_cons (pv 4) (pa_cons (pe_lst (pa_cons pe_non (pa_cons pe_int (pa_cons pe_int (pa_cons pe_bl (pa_cons pe_str (pa_cons (pe_lst (pa_cons pe_int pa_nil)) (pa_cons (pe_tup (pa_cons pe_int pa_nil)) (pa_cons pe_dnewK (pa_cons (pe_lst (pa_cons (pe_lst pa_nil) (pa_cons pe_int (pa_cons pe_int (pa_cons (pe_lst pa_nil) pa_nil))))) pa_nil)))))))))) pa_nil))))
      (pss_cons (ps_for PassesOwn.never rfl (pi_range1 (by rfl) T.n_range (pa_cons pe_int pa_nil)) (pg_name (i := 10) sc_law.nd rfl (Or.inl rfl)) (pss_cons (ps_if (pt_cmpR op_ne (pe_call (ok_l_joined T) (hr.mono (by decide)) (by rfl) T.m_l_joined T.F_l_joined.kp T.b_l_joined .nil pass0 (pa_cons (pv 10) (pa_cons (pv 1) (pa_cons (pv 9) pa_nil)))) pe_str (nomark _)) (pss_one ps_never) pss_nil)
      (pss_one (ps_if (pt_cmpR op_ne (pe_call (ok_l_joined T) (hr.mono (by decide)) (by rfl) T.m_l_joined T.F_l_joined.kp T.b_l_joined .nil pass0 (pa_cons (pv 10) (pa_cons (pv 1) (pa_cons (pv 2) pa_nil)))) pe_str (nomark _)) (pss_one ps_never) pss_nil))))
      (pss_one (ps_if (PW.pt (pw_or (pt_cmpR (Own.notin (ok_SizeSetu__containsu_ T) (hr.mono (by decide)) T.O_SizeSetu__containsu__1 T.b_SizeSetu__containsu_ pass0) pe_int (pv 1) (by with_unfolding_all rfl)) (pw_or1 (pt_cmpR (Own.isin (ok_SizeSetu__containsu_ T) (hr.mono (by decide)) T.O_SizeSetu__containsu__1 T.b_SizeSetu__containsu_ pass0) pe_int (pv 1) (by with_unfolding_all rfl))))) (pss_one ps_never) pss_nil))))))))
      (pss_cons (ps_if (pt_cmpR op_ne (pe_ix (Rd.ixLK rfl) (pe_call (ok_l_joined T) (hr.mono (by decide)) (by rfl) T.m_l_joined T.F_l_joined.kp T.b_l_joined .nil pass0 (pa_cons pe_int (pa_cons (pe_make T.K_SizeSet (ok_SizeSetu__initu_ T) (hr.mono (by decide)) (by rfl) T.m_SizeSet T.b_SizeSetu__initu_ .nil Sta.passF (pa_cons (pe_lst pa_nil) (pa_cons pe_int (pa_cons pe_int (pa_cons (pe_lst (pa_cons pe_int pa_nil)) pa_nil))))) (pa_cons (pe_make T.K_SizeSet (ok_SizeSetu__initu_ T) (hr.mono (by decide)) (by rfl) T.m_SizeSet T.b_SizeSetu__initu_ .nil Sta.passF (pa_cons (pe_lst pa_nil) (pa_cons pe_int (pa_cons pe_int (pa_cons (pe_lst (pa_cons pe_int pa_nil)) pa_nil))))) pa_nil)))) pe_int (fun _ _ => rfl)) pe_str (nomark _)) (pss_one ps_never) pss_nil)
      (pss_cons (ps_par (by rfl) sc_law.nd (i := 11) (j := 12) rfl rfl (by decide) rfl rfl (pa_cons (Sta.pe_smeth0 (pe_glob (v := .ref A.c_SizeSet) rfl T.m_SizeSet rfl) T.S_SizeSet_none (ok_SizeSet_none T) (hr.mono (by decide)) T.b_SizeSet_none .nil pass0) (pa_cons (Sta.pe_smeth0 (pe_glob (v := .ref A.c_SizeSet) rfl T.m_SizeSet rfl) T.S_SizeSet_full_set (ok_SizeSet_full_set T) (hr.mono (by decide)) T.b_SizeSet_full_set .nil pass0) pa_nil)) (by rfl))
      (pss_cons (ps_if (PW.pt (pw_or (pt_val (pe_callTy (Own.boolOwn (ok_SizeSetu__boolu_ T) (hr.mono (by decide)) T.O_SizeSetu__boolu__1 T.b_SizeSetu__boolu_ pass0) (by rfl) T.n_bool (by decide +kernel) (pa_cons (pv 11) pa_nil))) (pw_or (pt_not (pt_val (pe_callTy (Own.boolOwn (ok_SizeSetu__boolu_ T) (hr.mono (by decide)) T.O_SizeSetu__boolu__1 T.b_SizeSetu__boolu_ pass0) (by rfl) T.n_bool (by decide +kernel) (pa_cons (pv 12) pa_nil)))) (pw_or (pt_cmpR (Own.notin (ok_SizeSetu__containsu_ T) (hr.mono (by decide)) T.O_SizeSetu__containsu__1 T.b_SizeSetu__containsu_ pass0) pe_int (pv 12) (by with_unfolding_all rfl)) (pw_or1 (pt_cmpR (Own.notin (ok_SizeSetu__containsu_ T) (hr.mono (by decide)) T.O_SizeSetu__containsu__1 T.b_SizeSetu__containsu_ pass0) (pe_op op_pow pe_int pe_int) (pv 12) (by with_unfolding_all rfl))))))) (pss_one ps_never) pss_nil)
      (pss_cons (ps_if (pt_cmpR op_notN (pe_meth0 (pv 11) T.k_SizeSet T.M_SizeSet_least (ok_SizeSet_least T) (hr.mono (by decide)) T.b_SizeSet_least .nil pass0) pe_non (nomark _)) (pss_one ps_never) pss_nil)
      (pss_one (ps_ret (pe_and (pe_cmpR op_isN (pe_call (ok_l_made T) (hr.mono (by decide)) (by rfl) T.m_l_made T.F_l_made.kp T.b_l_made .nil pass0 (pa_cons (pe_lst pa_nil) (pa_cons pe_int (pa_cons pe_int (pa_cons (pe_lst (pa_cons pe_int pa_nil)) pa_nil))))) pe_non (nomark _)) (pe_and (pe_cmpR (Own.cmp (cop := .LtE) (ok_SizeSetu__leu_ T) (hr.mono (by decide)) T.O_SizeSetu__leu__1 T.b_SizeSetu__leu_ Sta.passF) (pv 11) (pv 12) (nomark _)) (pe_one (pe_not (pe_cmpR (Own.cmp (cop := .LtE) (ok_SizeSetu__leu_ T) (hr.mono (by decide)) T.O_SizeSetu__leu__1 T.b_SizeSetu__leu_ Sta.passF) (pv 12) (pv 11) (nomark _)))))))))))))), ?_⟩
    try dsimp only [L2.cxOf, L2.Cx.nox, L2.Cx.wish]
    try rw [st_law]
    with_reducible refine Rd.seq (Rd.par (Rd.cons (Rd.make (Rd.cons (Rd.lst (Rd.nil (Rd.laid (by walk_at "ll") ?_)))))))
    intro p1 np1
    with_reducible refine Rd.cons (Rd.c (Rd.cons (Rd.c (Rd.cons (Rd.lst (Rd.cons (Rd.c (Rd.nil (Rd.laid (by walk_at "ll") ?_)))))))))
    intro p2 np2
    with_reducible refine Rd.nil ?_
    intro xA dxA nxA ndxA neA
    refine ⟨_, _, _, _, _, _, rfl, L2.upd_same, .inl ⟨_, _, ⟨[], 1, 71, [1]⟩, rfl, rfl, rfl, rfl, (show _ = some (HO.lst []) from (by walk_at "hp")), (show _ = some (HO.lst [V.int 1]) from (by walk_at "hp")), (by assumption), (by decide), (by decide), fun tA HA FA caA snA => ?_⟩⟩
    refine ⟨rfl, ?_⟩
    have gA : SetG A HA xA ⟨[], 1, 71, [1]⟩ tA := ⟨snA.1, caA, okA, by decide, by decide⟩
    with_reducible refine Rd.cons (Rd.make (Rd.cons (Rd.lst (Rd.nil (Rd.laid (by walk_at "ll") ?_)))))
    intro p3 np3
    with_reducible refine Rd.cons (Rd.c (Rd.cons (Rd.c (Rd.cons (Rd.lst (Rd.cons (Rd.c (Rd.cons (Rd.c (Rd.nil (Rd.laid (by walk_at "ll") ?_)))))))))))
    intro p4 np4
    with_reducible refine Rd.nil ?_
    intro xB dxB nxB ndxB neB
    refine ⟨_, _, _, _, _, _, rfl, L2.upd_same, .inl ⟨_, _, ⟨[], 1, 73, [2, 3]⟩, rfl, rfl, rfl, rfl, (show _ = some (HO.lst []) from (by walk_at "hp")), (show _ = some (HO.lst [V.int 2, V.int 3]) from (by walk_at "hp")), (by assumption), (by decide), (by decide), fun tB HB FB caB snB => ?_⟩⟩
    refine ⟨rfl, ?_⟩
    have gB : SetG A HB xB ⟨[], 1, 73, [2, 3]⟩ tB := ⟨snB.1, caB, okB, by decide, by decide⟩
    with_reducible refine Rd.nil (⟨_, _, rfl, ?_⟩)
    refine Rd.comp (fun Hx => Same H Hx ∧ SetG A Hx xA ⟨[], 1, 71, [1]⟩ tA ∧ SetG A Hx xB ⟨[], 1, 73, [2, 3]⟩ tB) ⟨(by walk_at "frm"), gA.same (by walk_at "frm"), gB.same (by walk_at "frm")⟩ (fun Ha ⟨Sa, hA, hB⟩ => ?_)
    have pA : tA.p = 71 := one_res caA rfl (by decide) (by decide)
    have pB : tB.p = 73 := two_res caB
    have lAB : 5000 < Lcm.lcmI tA.p tB.p := by rw [pA, pB]; decide +kernel
    obtain ⟨iA, _⟩ := id hA
    obtain ⟨dxA2, eaA, reA, emA, rmA, rawA, _⟩ := id iA
    have hS2 := Same.seq Sa hS
    with_reducible refine Rd.seq (Rd.fr (Rd.rng1 (Rd.cons (Rd.cB (Rd.cons (Rd.c (Rd.cons (Rd.cB (Rd.cons (Rd.cB (Rd.cons ?_)))))))))))
    with_reducible refine Rd.var (by walk_at "vr") (Rd.nil (⟨_, _, rfl, (by walk_at "hpq"), (Rd.cons (Rd.c (Rd.nil (⟨_, _, rfl, (Rd.nil (⟨_, _, rfl, (Rd.nil (⟨_, rfl, (by walk_at "sc"), (by walk_at "sc"), ?_⟩))⟩))⟩))))⟩))
    refine for_range (lo := 0) (fun (_ : Nat) (σ : L2.St) (H' : Hp) => ∃ v_turn v_source_here v_early v_start v_period v_rests v_odd v_way v_none v_every : Option V, σ = [some (.ref a), some (.ref xA), some (.ref xB), v_turn, v_source_here, v_early, v_start, v_period, v_rests, v_odd, v_way, v_none, v_every] ∧ Same Ha H') ⟨_, _, _, _, _, _, _, _, _, _, rfl, Same.refl _⟩ (fun i σ H0 hi ⟨v_turn, v_source_here, v_early, v_start, v_period, v_rests, v_odd, v_way, v_none, v_every, es, S0⟩ => ?_) (fun σ H0 ⟨v_turn, v_source_here, v_early, v_start, v_period, v_rests, v_odd, v_way, v_none, v_every, es, S0⟩ => ?_)
    · subst es
      have hS0 := Same.seq S0 (Same.seq Sa hS)
      with_reducible refine Rd.name (Rd.seq (Rd.asg (Rd.call (Rd.cons (Rd.var (by walk_at "vr") (Rd.cons (Rd.var (by walk_at "vr") (Rd.nil ?_))))))))
      refine ⟨_, _, _, rfl, (by walk_at "hpl"), (by walk_at "sc"), (by walk_at "sc"), fun src3 o3 src3n s3 => ?_⟩
      with_reducible refine Rd.name ?_
      try dsimp only [Int.reduceToNat, List.set]
      with_reducible refine Rd.seq (Rd.asg (Rd.call (Rd.cons (Rd.var (by walk_at "vr") (Rd.nil ?_)))))
      refine ⟨_, _, rfl, (by walk_at "hp"), (by walk_at "sc"), fun vW oW HW FW rW soW rbW => ?_⟩
      obtain ⟨qW, eW, sW, pW, reW, rfl, hW, rowW⟩ := rbW
      refine Rd.gtup (by walk_at "hpt") rfl ?_
      with_reducible refine Rd.gcons (Rd.name (Rd.gcons (Rd.name (Rd.gcons (Rd.name (Rd.gcons (Rd.name (Rd.gnil (Rd.seq (Rd.ifS (Rd.test ?_)))))))))))
      with_reducible refine Rd.op (Rd.call (Rd.cons (Rd.var (by walk_at "vr") (Rd.cons (Rd.var (by walk_at "vr") (Rd.cons (Rd.var (by walk_at "vr") (Rd.cons (Rd.var (by walk_at "vr") (Rd.nil ?_))))))))))
      refine ⟨_, _, _, _, rfl, .inl ⟨BadR.same (by walk_at "frm") rowW.bad, fun H5 S5 => ?_⟩⟩
      with_reducible refine Rd.c ?_
      refine Rd.neS rfl ?_
      with_reducible refine Rd.bl (Rd.iteF (by walk_at "bF") (Rd.next (Rd.seq (Rd.asg (Rd.call (Rd.cons (Rd.var (by walk_at "vr") (Rd.cons (Rd.lst (Rd.cons (Rd.c ?_)))))))))))
      with_reducible refine Rd.cons (Rd.c (Rd.cons (Rd.c (Rd.cons (Rd.c (Rd.cons (Rd.c (Rd.cons (Rd.lst (Rd.cons (Rd.c ?_)))))))))))
      with_reducible refine Rd.nil (Rd.laid (by walk_at "ll") ?_)
      intro p6 np6
      with_reducible refine Rd.cons (Rd.tup (Rd.cons (Rd.c (Rd.nil (Rd.laid (by walk_at "ll") ?_)))))
      intro p7 np7
      with_reducible refine Rd.cons (Rd.newK ?_)
      intro pd221_81 npd221_81
      with_reducible refine Rd.cons (Rd.lst (Rd.cons (Rd.lst (Rd.nil (Rd.laid (by walk_at "ll") ?_)))))
      intro p9 np9
      with_reducible refine Rd.cons (Rd.c (Rd.cons (Rd.c (Rd.cons (Rd.lst (Rd.nil (Rd.laid (by walk_at "ll") ?_)))))))
      intro p10 np10
      with_reducible refine Rd.nil (Rd.laid (by walk_at "ll") ?_)
      intro p8 np8
      with_reducible refine Rd.nil (Rd.laid (by walk_at "ll") ?_)
      intro p5 np5
      with_reducible refine Rd.nil ?_
      refine ⟨_, _, _, _, rfl, (by walk_at "hp"), (by walk_at "sc"), (by walk_at "hp"), (by exact Nat.le_of_ble_eq_true rfl), (by exact Nat.le_of_ble_eq_true rfl), (by walk_at "ne"), fun vP oP HP mP FP rP soP => ?_⟩
      obtain ⟨xQ, yQ, rfl, _⟩ := id soP
      have hodd : OddS A K HP vP := by
        simp only [List.mem_cons, List.not_mem_nil, or_false] at mP
        rcases mP with rfl | rfl | rfl | rfl | rfl | rfl | rfl | rfl | rfl
        · exact odd_s .non
        · exact ⟨_, by decide +kernel, TyI K HP _⟩
        · exact ⟨_, by decide +kernel, TyI K HP _⟩
        · exact ⟨_, by decide +kernel, L2.TyX.base (L2.TyOf.bl _)⟩
        · exact odd_s (.str _)
        · exact odd_s (.lst (xs := [.int 1]) (by walk_at "hp") (by simp))
        · exact odd_s (.tup (xs := [.int 1]) (by walk_at "hp"))
        · exact odd_s (.dK (by walk_at "hp"))
        · exact odd_s (.lst (by walk_at "hp") (by simp))
      with_reducible refine Rd.name ?_
      try dsimp only [Int.reduceToNat, List.set]
      refine Rd.comp (fun Hx => Same Ha Hx ∧ OddS A K Hx vP) ⟨(by walk_at "frm"), hodd.same (by walk_at "frm")⟩ (fun Hq ⟨Sq, oq⟩ => ?_)
      with_reducible refine Rd.seq (Rd.fr (Rd.rng1 (Rd.cons (Rd.c (Rd.nil (⟨_, rfl, (by walk_at "sc"), (by walk_at "sc"), ?_⟩))))))
      refine for_range (lo := 0) (fun (_ : Nat) (σ : L2.St) (H' : Hp) => ∃ v_turn v_early v_start v_period v_rests v_way v_none v_every : Option V, σ = [some (.ref a), some (.ref xA), some (.ref xB), v_turn, some (.ref src3), v_early, v_start, v_period, v_rests, some vP, v_way, v_none, v_every] ∧ Same Hq H') ⟨_, _, _, _, _, _, _, _, rfl, Same.refl _⟩ (fun j σ H1z hj ⟨v_turn, v_early, v_start, v_period, v_rests, v_way, v_none, v_every, es, S1z⟩ => ?_) (fun σ H1z ⟨v_turn, v_early, v_start, v_period, v_rests, v_way, v_none, v_every, es, S1z⟩ => ?_)
      · subst es
        with_reducible refine Rd.name (Rd.seq (Rd.ifS (Rd.test (Rd.op (Rd.call (Rd.cons (Rd.var (by walk_at "vr") (Rd.cons (Rd.var (by walk_at "vr") (Rd.cons (Rd.var (by walk_at "vr") ?_)))))))))))
        with_reducible refine Rd.nil ?_
        refine ⟨_, _, _, _, _, rfl, (by walk_at "sg"), .inl ⟨oq.same (by walk_at "frm"), (by omega), fun H7 S7 => ?_⟩⟩
        with_reducible refine Rd.c ?_
        refine Rd.neS rfl ?_
        with_reducible refine Rd.bl (Rd.iteF (by walk_at "bF") (Rd.next (Rd.ifS (Rd.test (Rd.op (Rd.call (Rd.cons (Rd.var (by walk_at "vr") (Rd.cons (Rd.var (by walk_at "vr") (Rd.cons ?_)))))))))))
        with_reducible refine Rd.var (by walk_at "vr") (Rd.nil ?_)
        refine ⟨_, _, _, _, _, rfl, (by walk_at "sg"), .inr ⟨_, _, _, rfl, (by walk_at "sg"), .inl ⟨lAB, (by omega), fun H8 S8 => ?_⟩⟩⟩
        with_reducible refine Rd.c ?_
        refine Rd.neS rfl ?_
        with_reducible refine Rd.bl (Rd.iteF (by walk_at "bF") (Rd.next ?_))
        exact ⟨_, _, _, _, _, _, _, _, rfl, (by walk_at "frm")⟩
      · subst es
        with_reducible refine Rd.ifS (Rd.or (Rd.test (Rd.op (Rd.c (Rd.var (by walk_at "vr") ?_)))))
        refine ⟨_, _, _, rfl, (by walk_at "hp"), ?_⟩
        refine ⟨_, _, _, _, rfl, (by walk_at "set"), caA, okA, .inl ⟨_, rfl, ⟨_, rfl, ?_⟩⟩⟩
        rw [show (decide ((1 : Int) ≤ 1) && Rows.has ⟨[], 1, 71, [1]⟩ 1) = true from by decide +kernel]
        with_reducible refine Rd.bl (Rd.iteF (by walk_at "bF") (Rd.test (Rd.op (Rd.c (Rd.var (by walk_at "vr") ?_)))))
        refine ⟨_, _, _, rfl, (by walk_at "hp"), ?_⟩
        refine ⟨_, _, _, _, rfl, (by walk_at "set"), caA, okA, .inl ⟨_, rfl, ⟨_, rfl, ?_⟩⟩⟩
        rw [show (decide ((1 : Int) ≤ 2) && Rows.has ⟨[], 1, 71, [1]⟩ 2) = false from by decide +kernel]
        with_reducible refine Rd.bl (Rd.iteF (by walk_at "bF") (Rd.next ?_))
        exact ⟨_, _, _, _, _, _, _, _, _, _, rfl, (by walk_at "frm")⟩
    · subst es
      with_reducible refine Rd.seq (Rd.ifS (Rd.test (Rd.op (Rd.op (Rd.call (Rd.cons (Rd.c (Rd.cons (Rd.make (Rd.cons (Rd.lst ?_)))))))))))
      with_reducible refine Rd.nil (Rd.laid (by walk_at "ll") ?_)
      intro p11 np11
      with_reducible refine Rd.cons (Rd.c (Rd.cons (Rd.c (Rd.cons (Rd.lst (Rd.cons (Rd.c (Rd.nil (Rd.laid (by walk_at "ll") ?_)))))))))
      intro p12 np12
      with_reducible refine Rd.nil ?_
      intro xC dxC nxC ndxC neC
      refine ⟨_, _, _, _, _, _, rfl, L2.upd_same, .inl ⟨_, _, ⟨[], 1, 8, [1]⟩, rfl, rfl, rfl, rfl, (show _ = some (HO.lst []) from (by walk_at "hp")), (show _ = some (HO.lst [V.int 1]) from (by walk_at "hp")), (by assumption), (by decide), (by decide), fun tC HC FC caC snC => ?_⟩⟩
      refine ⟨rfl, ?_⟩
      have gC : SetG A HC xC ⟨[], 1, 8, [1]⟩ tC := ⟨snC.1, caC, okC, by decide, by decide⟩
      with_reducible refine Rd.cons (Rd.make (Rd.cons (Rd.lst (Rd.nil (Rd.laid (by walk_at "ll") ?_)))))
      intro p13 np13
      with_reducible refine Rd.cons (Rd.c (Rd.cons (Rd.c (Rd.cons (Rd.lst (Rd.cons (Rd.c (Rd.nil (Rd.laid (by walk_at "ll") ?_)))))))))
      intro p14 np14
      with_reducible refine Rd.nil ?_
      intro xD dxD nxD ndxD neD
      refine ⟨_, _, _, _, _, _, rfl, L2.upd_same, .inl ⟨_, _, ⟨[], 1, 625, [2]⟩, rfl, rfl, rfl, rfl, (show _ = some (HO.lst []) from (by walk_at "hp")), (show _ = some (HO.lst [V.int 2]) from (by walk_at "hp")), (by assumption), (by decide), (by decide), fun tD HD FD caD snD => ?_⟩⟩
      refine ⟨rfl, ?_⟩
      have gD : SetG A HD xD ⟨[], 1, 625, [2]⟩ tD := ⟨snD.1, caD, okD, by decide, by decide⟩
      with_reducible refine Rd.nil ?_
      have pC : tC.p = 8 := one_res caC rfl (by decide) (by decide)
      have pD : tD.p = 625 := one_res caD rfl (by decide) (by decide)
      have lCD : Lcm.lcmI tC.p tD.p ≤ 5000 := by rw [pC, pD]; decide +kernel
      refine ⟨_, _, _, _, _, rfl, (by walk_at "sg"), .inr ⟨_, _, _, rfl, (by walk_at "sg"), .inr ⟨lCD, rfl, fun q13 rJ H13 S13 hq13 => ?_⟩⟩⟩
      with_reducible refine Rd.c ?_
      refine Rd.ixL (by walk_at "hpl") (show atI [V.str "done", rJ] 0 = some (V.str "done") from rfl) ?_
      with_reducible refine Rd.c ?_
      refine Rd.neS rfl ?_
      with_reducible refine Rd.bl (Rd.iteF (by walk_at "bF") (Rd.next (Rd.seq (Rd.par (Rd.cons (Rd.smeth (Rd.c (⟨rfl, (Rd.nil ?_)⟩))))))))
      refine ⟨rfl, fun rN tN HN SN nrN gN => ?_⟩
      obtain ⟨iN, cN, oN, _⟩ := id gN
      obtain ⟨dxN, eaN, reN, emN, rmN, rawN, _⟩ := id iN
      with_reducible refine Rd.cons (Rd.smeth (Rd.c (⟨rfl, (Rd.nil ?_)⟩)))
      refine ⟨rfl, fun rV tV HV SV nrV gV => ?_⟩
      obtain ⟨iV, cV, oV, _⟩ := id gV
      obtain ⟨dxV, eaV, reV, emV, rmV, rawV, _⟩ := id iV
      with_reducible refine Rd.nil (⟨_, _, rfl, ?_⟩)
      refine Rd.comp (fun Hx => SetG A Hx rN ⟨[], 1, 1, []⟩ tN ∧ SetG A Hx rV ⟨[], 1, 1, [0]⟩ tV) ⟨gN.same (by walk_at "frm"), gV.same (by walk_at "frm")⟩ (fun Hn ⟨kN, kV⟩ => ?_)
      obtain ⟨jN, _⟩ := id kN
      obtain ⟨jV, _⟩ := id kV
      obtain ⟨dxN2, eaN2, reN2, emN2, rmN2, rwN2, _⟩ := id jN
      obtain ⟨dxV2, eaV2, reV2, emV2, rmV2, rwV2, _⟩ := id jV
      have lN : (tN.E.length : Int) + (tN.R.length : Int) = 0 := by rw [cN.E, cN.R]; rfl
      have pN : tN.p = 1 := by have := cN.k.pos; have : tN.p ≤ 1 := cN.kp; omega
      have pV : tV.p = 1 := by have := cV.k.pos; have : tV.p ≤ 1 := cV.kp; omega
      have lV : (0 : Int) < (tV.E.length : Int) + (tV.R.length : Int) := by rw [cV.R, pV]; show (0 : Int) < _ + (([0] : List Int).length : Int); simp only [List.length_cons, List.length_nil]; omega
      have bN : decide ((0 : Int) < (tN.E.length : Int) + (tN.R.length : Int)) = false := decide_eq_false (by omega)
      have bV : (!decide ((0 : Int) < (tV.E.length : Int) + (tV.R.length : Int))) = false := by rw [decide_eq_true lV]; rfl
      have lc1 : Lcm.lcmI tN.p tV.p ≤ 5000 := by rw [pN, pV]; decide +kernel
      have lc2 : Lcm.lcmI tV.p tN.p ≤ 5000 := by rw [pN, pV]; decide +kernel
      have sN := cN.s1
      have sV := cV.s1
      with_reducible refine Rd.seq (Rd.ifS (Rd.or (Rd.tb (Rd.cB (Rd.cons (Rd.var (by walk_at "vr") (Rd.nil ?_)))))))
      refine ⟨_, _, _, rfl, (by walk_at "hp"), ?_⟩
      refine ⟨_, _, _, rfl, (by walk_at "set"), ⟨_, rfl, ?_⟩⟩
      with_reducible refine Rd.bl (Rd.iteF (by walk_at "bF") (Rd.or (Rd.not (Rd.tb (Rd.cB (Rd.cons (Rd.var (by walk_at "vr") (Rd.nil ?_))))))))
      refine ⟨_, _, _, rfl, (by walk_at "hp"), ?_⟩
      refine ⟨_, _, _, rfl, (by walk_at "set"), ⟨_, rfl, ?_⟩⟩
      with_reducible refine Rd.bl (Rd.iteF (by walk_at "bF") (Rd.or (Rd.test (Rd.op (Rd.c (Rd.var (by walk_at "vr") ?_))))))
      refine ⟨_, _, _, rfl, (by walk_at "hp"), ?_⟩
      refine ⟨_, _, _, _, rfl, (by walk_at "set"), cV, oV, .inl ⟨_, rfl, ⟨_, rfl, ?_⟩⟩⟩
      rw [has_every (by decide)]
      with_reducible refine Rd.bl (Rd.iteF (by walk_at "bF") (Rd.test (Rd.op (Rd.op (Rd.c (Rd.c (Rd.iC (by walk_at "scp") (Rd.var (by walk_at "vr") ?_))))))))
      refine ⟨_, _, _, rfl, (by walk_at "hp"), ?_⟩
      refine ⟨_, _, _, _, rfl, (by walk_at "set"), cV, oV, .inl ⟨_, rfl, ⟨_, rfl, ?_⟩⟩⟩
      rw [has_every (by omega), decide_eq_true (show (1 : Int) ≤ (10 : Int) ^ Int.toNat 30 by omega)]
      with_reducible refine Rd.bl (Rd.iteF (by walk_at "bF") (Rd.next (Rd.seq (Rd.ifS (Rd.test (Rd.op (Rd.meth (Rd.var (by walk_at "vr") (⟨_, _, _, rfl, (by walk_at "hp"), (by walk_at "lk"), (Rd.nil ?_)⟩)))))))))
      refine ⟨_, _, _, rfl, (by walk_at "set"), cN, oN, (by decide), (by decide), fun vL lvL => ?_⟩
      obtain rfl : vL = .non := by
        rcases lvL with ⟨n, _, n1, h, _⟩ | ⟨e, _⟩
        · rw [has_none] at h; cases h
        · exact e
      with_reducible refine Rd.c (⟨rfl, (Rd.bl (Rd.iteF (by walk_at "bF") (Rd.next (Rd.ret (Rd.andV (Rd.op (Rd.call (Rd.cons (Rd.lst (Rd.nil ?_))))))))))⟩)
      with_reducible refine Rd.laid (by walk_at "ll") ?_
      intro p16 np16
      with_reducible refine Rd.cons (Rd.c (Rd.cons (Rd.c (Rd.cons (Rd.lst (Rd.cons (Rd.c (Rd.nil (Rd.laid (by walk_at "ll") ?_)))))))))
      intro p17 np17
      with_reducible refine Rd.nil ?_
      refine ⟨_, _, _, _, rfl, .inr ⟨_, _, ⟨[], 20000, 5000, [4999]⟩, rfl, rfl, rfl, rfl, (show _ = some (HO.lst []) from (by walk_at "hp")), (show _ = some (HO.lst [V.int 4999]) from (by walk_at "hp")), okL, (by decide), (by decide), fun H21 S21 => ?_⟩⟩
      with_reducible refine Rd.c (⟨rfl, (Rd.bl (Rd.iteT (by walk_at "bT") (Rd.andV (Rd.op (Rd.var (by walk_at "vr") (Rd.var (by walk_at "vr") (Own.cmp2 (by walk_at "hp") (by walk_at "tyx") (by walk_at "nf") ?_)))))))⟩)
      refine ⟨_, _, _, _, rfl, (by walk_at "sg"), .inl ⟨_, _, _, rfl, (by walk_at "sg"), .inl ⟨lc1, fun b22 H22 S22 hb22 => ?_⟩⟩⟩
      obtain rfl : b22 = true := hb22.mpr (fun n n1 _ h => by rw [has_none] at h; cases h)
      with_reducible refine Rd.bl (Rd.iteT (by walk_at "bT") (Rd.notV (Rd.op (Rd.var (by walk_at "vr") (Rd.var (by walk_at "vr") (Own.cmp2 (by walk_at "hp") (by walk_at "tyx") (by walk_at "nf") ?_))))))
      refine ⟨_, _, _, _, rfl, (by walk_at "sg"), .inl ⟨_, _, _, rfl, (by walk_at "sg"), .inl ⟨lc2, fun b23 H23 S23 hb23 => ?_⟩⟩⟩
      obtain rfl : b23 = false := Bool.eq_false_iff.mpr (fun z => by have q := hb23.mp z 1 (by decide) (by have := Lcm.lcm_pos (show 1 ≤ tV.p by omega) (show 1 ≤ tN.p by omega); unfold topV; split <;> omega) (has_every (by decide)); rw [has_none] at q; cases q)
      with_reducible refine Rd.bl ?_
      exact k _
end
theorem all_mk {l : PySem.W.OpenLaw} {w : World} {K : PySem.W.Frag} {h : Heap} {mg : Str → Option Value} {fa f_is_whole f_is_whole_from f_is_ascending f_check_parts f_least_start f_marks_of f_shortest f_SizeSetu__initu_ f_SizeSet_start f_SizeSet_period f_SizeSetu__containsu_ f_common_parts f_set_of f_SizeSetu__andu_ f_SizeSetu__oru_ f_SizeSetu__leu_ f_SizeSetu__boolu_ f_SizeSet_least f_SizeSet_none f_SizeSet_full_set f_l_source f_l_draw f_l_pick f_l_told f_l_made f_l_joined f_l_wrong f_law c_SizeSet c_RingError c_NoForm c_NoCounter c_NoScheme c_NoSize c_NoRing c_Outside c_NoRun c_NoSet c_TooLong p_SizeSet_start p_SizeSet_period : Addr} (X : K.In h) (G : h.Ns mainGlobals mg) (hfa : mg "law" = some (.ref fa))
    {fd_is_whole : FuncData}
    {fd_is_whole_from : FuncData}
    {fd_is_ascending : FuncData}
    {fd_check_parts : FuncData}
    {fd_least_start : FuncData}
    {fd_marks_of : FuncData}
    {fd_shortest : FuncData}
    {fd_SizeSetu__initu_ : FuncData}
    {fd_SizeSet_start : FuncData}
    {fd_SizeSet_period : FuncData}
    {fd_SizeSetu__containsu_ : FuncData}
    {fd_common_parts : FuncData}
    {fd_set_of : FuncData}
    {fd_SizeSetu__andu_ : FuncData}
    {fd_SizeSetu__oru_ : FuncData}
    {fd_SizeSetu__leu_ : FuncData}
    {fd_SizeSetu__boolu_ : FuncData}
    {fd_SizeSet_least : FuncData}
    {fd_SizeSet_none : FuncData}
    {fd_SizeSet_full_set : FuncData}
    {fd_l_source : FuncData}
    {fd_l_draw : FuncData}
    {fd_l_pick : FuncData}
    {fd_l_told : FuncData}
    {fd_l_made : FuncData}
    {fd_l_joined : FuncData}
    {fd_l_wrong : FuncData}
    {fd_law : FuncData}
    {t_GREATEST_START : Tok}
    {t_GREATEST_PERIOD : Tok}
    {ps_SizeSet_none : Addr}
    {rs_SizeSet_none : List Value}
    {ps_SizeSet_full_set : Addr}
    {rs_SizeSet_full_set : List Value}
    {rs_SizeSet_start : List Value}
    {rs_SizeSet_period : List Value}
    {rc_SizeSetu__andu_ nfo_NoneType_SizeSetu__andu_ nro_NoneType_SizeSetu__andu_ nfo_int_SizeSetu__andu_ nro_int_SizeSetu__andu_ nfo_bool_SizeSetu__andu_ nro_bool_SizeSetu__andu_ nfo_str_SizeSetu__andu_ nro_str_SizeSetu__andu_ nfo_tuple_SizeSetu__andu_ nro_tuple_SizeSetu__andu_ nfo_list_SizeSetu__andu_ nro_list_SizeSetu__andu_ nfo_dict_SizeSetu__andu_ nro_dict_SizeSetu__andu_ : Option Value}
    {rc_SizeSetu__oru_ nfo_NoneType_SizeSetu__oru_ nro_NoneType_SizeSetu__oru_ nfo_int_SizeSetu__oru_ nro_int_SizeSetu__oru_ nfo_bool_SizeSetu__oru_ nro_bool_SizeSetu__oru_ nfo_str_SizeSetu__oru_ nro_str_SizeSetu__oru_ nfo_tuple_SizeSetu__oru_ nro_tuple_SizeSetu__oru_ nfo_list_SizeSetu__oru_ nro_list_SizeSetu__oru_ nfo_dict_SizeSetu__oru_ nro_dict_SizeSetu__oru_ : Option Value}
    (h_n_ValueError : PySem.W.nsIn K mainGlobals "ValueError" = some none)
    (h_n_abs : PySem.W.nsIn K mainGlobals "abs" = some none)
    (h_n_all : PySem.W.nsIn K mainGlobals "all" = some none)
    (h_n_bool : PySem.W.nsIn K mainGlobals "bool" = some none)
    (h_n_int : PySem.W.nsIn K mainGlobals "int" = some none)
    (h_n_isinstance : PySem.W.nsIn K mainGlobals "isinstance" = some none)
    (h_n_len : PySem.W.nsIn K mainGlobals "len" = some none)
    (h_n_list : PySem.W.nsIn K mainGlobals "list" = some none)
    (h_n_max : PySem.W.nsIn K mainGlobals "max" = some none)
    (h_n_min : PySem.W.nsIn K mainGlobals "min" = some none)
    (h_n_range : PySem.W.nsIn K mainGlobals "range" = some none)
    (h_n_sorted : PySem.W.nsIn K mainGlobals "sorted" = some none)
    (h_m_GREATEST_START : PySem.W.nsIn K mainGlobals "GREATEST_START" = some (some (.int (20000) t_GREATEST_START)))
    (h_m_GREATEST_PERIOD : PySem.W.nsIn K mainGlobals "GREATEST_PERIOD" = some (some (.int (5000) t_GREATEST_PERIOD)))
    (h_m_lcm : PySem.W.nsIn K mainGlobals "lcm" = some (some (.builtin "math.lcm")))
    (h_m_NoSet : PySem.W.nsIn K mainGlobals "NoSet" = some (some (.ref c_NoSet)))
    (h_m_TooLong : PySem.W.nsIn K mainGlobals "TooLong" = some (some (.ref c_TooLong)))
    (h_m_SizeSet : PySem.W.nsIn K mainGlobals "SizeSet" = some (some (.ref c_SizeSet)))
    (h_n_SizeSet_period : PySem.W.findIn K (.ref c_SizeSet) "_period" = some none)
    (h_n_SizeSet_start : PySem.W.findIn K (.ref c_SizeSet) "_start" = some none)
    (h_n_SizeSet_early : PySem.W.findIn K (.ref c_SizeSet) "_early" = some none)
    (h_n_SizeSet_rests : PySem.W.findIn K (.ref c_SizeSet) "_rests" = some none)
    (h_n_SizeSet_early_marks : PySem.W.findIn K (.ref c_SizeSet) "_early_marks" = some none)
    (h_n_SizeSet_rest_marks : PySem.W.findIn K (.ref c_SizeSet) "_rest_marks" = some none)
    (h_m_RingError : PySem.W.nsIn K mainGlobals "RingError" = some (some (.ref c_RingError)))
    (h_m_NoForm : PySem.W.nsIn K mainGlobals "NoForm" = some (some (.ref c_NoForm)))
    (h_m_NoCounter : PySem.W.nsIn K mainGlobals "NoCounter" = some (some (.ref c_NoCounter)))
    (h_m_NoScheme : PySem.W.nsIn K mainGlobals "NoScheme" = some (some (.ref c_NoScheme)))
    (h_m_NoSize : PySem.W.nsIn K mainGlobals "NoSize" = some (some (.ref c_NoSize)))
    (h_m_NoRing : PySem.W.nsIn K mainGlobals "NoRing" = some (some (.ref c_NoRing)))
    (h_m_Outside : PySem.W.nsIn K mainGlobals "Outside" = some (some (.ref c_Outside)))
    (h_m_NoRun : PySem.W.nsIn K mainGlobals "NoRun" = some (some (.ref c_NoRun)))
    (h_m_is_whole : PySem.W.nsIn K mainGlobals "is_whole" = some (some (.ref f_is_whole)))
    (h_m_is_whole_from : PySem.W.nsIn K mainGlobals "is_whole_from" = some (some (.ref f_is_whole_from)))
    (h_m_is_ascending : PySem.W.nsIn K mainGlobals "is_ascending" = some (some (.ref f_is_ascending)))
    (h_m_check_parts : PySem.W.nsIn K mainGlobals "check_parts" = some (some (.ref f_check_parts)))
    (h_m_least_start : PySem.W.nsIn K mainGlobals "least_start" = some (some (.ref f_least_start)))
    (h_m_marks_of : PySem.W.nsIn K mainGlobals "marks_of" = some (some (.ref f_marks_of)))
    (h_m_shortest : PySem.W.nsIn K mainGlobals "shortest" = some (some (.ref f_shortest)))
    (h_m_common_parts : PySem.W.nsIn K mainGlobals "common_parts" = some (some (.ref f_common_parts)))
    (h_m_set_of : PySem.W.nsIn K mainGlobals "set_of" = some (some (.ref f_set_of)))
    (h_m_l_source : PySem.W.nsIn K mainGlobals "_law_source" = some (some (.ref f_l_source)))
    (h_m_l_draw : PySem.W.nsIn K mainGlobals "_law_draw" = some (some (.ref f_l_draw)))
    (h_m_l_pick : PySem.W.nsIn K mainGlobals "_law_pick" = some (some (.ref f_l_pick)))
    (h_m_l_told : PySem.W.nsIn K mainGlobals "_law_told" = some (some (.ref f_l_told)))
    (h_m_l_made : PySem.W.nsIn K mainGlobals "_law_made" = some (some (.ref f_l_made)))
    (h_m_l_joined : PySem.W.nsIn K mainGlobals "_law_joined" = some (some (.ref f_l_joined)))
    (h_m_l_wrong : PySem.W.nsIn K mainGlobals "_law_wrong" = some (some (.ref f_l_wrong)))
    (h_m_law : PySem.W.nsIn K mainGlobals "law" = some (some (.ref f_law)))
    (h_in_SizeSet : PySem.W.findIn K (.ref c_SizeSet) "__init__" = some (some (.ref f_SizeSetu__initu_)))
    (h_a_SizeSet_least : PySem.W.findIn K (.ref c_SizeSet) "least" = some (some (.ref f_SizeSet_least)))
    (h_a1_SizeSet_none : PySem.W.findCls K (.ref c_SizeSet) (.type "type") "none" = some (.get (.builtin "staticmethod.__get__") (.ref ps_SizeSet_none) .none (.ref c_SizeSet)))
    (h_a1_SizeSet_full_set : PySem.W.findCls K (.ref c_SizeSet) (.type "type") "full_set" = some (.get (.builtin "staticmethod.__get__") (.ref ps_SizeSet_full_set) .none (.ref c_SizeSet)))
    (h_a1_SizeSet_start : PySem.W.findIn K (.ref c_SizeSet) "start" = some (some (.ref p_SizeSet_start)))
    (h_a1_SizeSet_period : PySem.W.findIn K (.ref c_SizeSet) "period" = some (some (.ref p_SizeSet_period)))
    (h_a_SizeSetu__containsu_ : PySem.W.findIn K (.ref c_SizeSet) "__contains__" = some (some (.ref f_SizeSetu__containsu_)))
    (h_bn_SizeSetu__andu_ : PySem.W.findIn K (.ref c_SizeSet) (PySem.dunder (Operator.info .BitAnd).2) = some (some (.ref f_SizeSetu__andu_)))
    (h_bn_SizeSetu__oru_ : PySem.W.findIn K (.ref c_SizeSet) (PySem.dunder (Operator.info .BitOr).2) = some (some (.ref f_SizeSetu__oru_)))
    (h_a_SizeSetu__leu_ : PySem.W.findIn K (.ref c_SizeSet) "__le__" = some (some (.ref f_SizeSetu__leu_)))
    (h_a_SizeSetu__boolu_ : PySem.W.findIn K (.ref c_SizeSet) "__bool__" = some (some (.ref f_SizeSetu__boolu_)))
    (h_a2_SizeSet_none : PySem.W.recIn K ps_SizeSet_none "staticmethod" = some (.ref f_SizeSet_none :: rs_SizeSet_none))
    (h_a2_SizeSet_full_set : PySem.W.recIn K ps_SizeSet_full_set "staticmethod" = some (.ref f_SizeSet_full_set :: rs_SizeSet_full_set))
    (h_a2_SizeSet_start : PySem.W.recIn K p_SizeSet_start "property" = some (.ref f_SizeSet_start :: rs_SizeSet_start))
    (h_a2_SizeSet_period : PySem.W.recIn K p_SizeSet_period "property" = some (.ref f_SizeSet_period :: rs_SizeSet_period))
    (h_x_NoSet : PySem.W.excIn K c_NoSet [.type "ValueError", .type "Exception", .type "BaseException", .type "object"] "ValueError.__new__" = true)
    (h_kp_NoSet : PySem.W.keepIn K (.ref c_NoSet) = true)
    (h_sb_NoSet : PySem.W.subIn K (.ref c_NoSet) (.type "BaseException") = some true)
    (h_tc_NoSet : PySem.W.typeIn K (.ref c_NoSet) = some (.type "type"))
    (h_x_TooLong : PySem.W.excIn K c_TooLong [.type "ValueError", .type "Exception", .type "BaseException", .type "object"] "ValueError.__new__" = true)
    (h_kp_TooLong : PySem.W.keepIn K (.ref c_TooLong) = true)
    (h_sb_TooLong : PySem.W.subIn K (.ref c_TooLong) (.type "BaseException") = some true)
    (h_tc_TooLong : PySem.W.typeIn K (.ref c_TooLong) = some (.type "type"))
    (h_pg_SizeSet : PySem.W.plainGet K c_SizeSet Str.empty = true)
    (h_hd_SizeSet : PySem.W.hasDictIn K c_SizeSet = true)
    (h_po_SizeSet : PySem.W.plainOver K c_SizeSet = true)
    (h_sa_SizeSet : PySem.W.findIn K (.ref c_SizeSet) "__setattr__" = some (some (.builtin "object.__setattr__")))
    (h_mk_SizeSet : PySem.W.makesIn K c_SizeSet = true)
    (h_ii_SizeSet : PySem.W.isFn K (.ref f_SizeSetu__initu_) = true)
    (h_kp_SizeSet : PySem.W.keepIn K (.ref c_SizeSet) = true)
    (h_ha_SizeSet : PySem.W.findIn K (.ref c_SizeSet) "__class__" = some (some (.builtin "object.__class__")))
    (h_mo_SizeSet : PySem.W.mroIn K c_SizeSet (.type "object") = some true)
    (h_hn_SizeSet : PySem.W.specialIn K (.builtin "object.__class__") "__get__" = some (some (.builtin "getset_descriptor.__get__")))
    (h_htk_SizeSet : PySem.W.takesIn K (.builtin "object.__class__") = some true)
    (h_kt_NoneType_SizeSet : PySem.W.kitOne K (.type "NoneType") (.ref c_SizeSet) = some false)
    (h_kt_int_SizeSet : PySem.W.kitOne K (.type "int") (.ref c_SizeSet) = some false)
    (h_kt_bool_SizeSet : PySem.W.kitOne K (.type "bool") (.ref c_SizeSet) = some false)
    (h_kt_str_SizeSet : PySem.W.kitOne K (.type "str") (.ref c_SizeSet) = some false)
    (h_kt_tuple_SizeSet : PySem.W.kitOne K (.type "tuple") (.ref c_SizeSet) = some false)
    (h_kt_list_SizeSet : PySem.W.kitOne K (.type "list") (.ref c_SizeSet) = some false)
    (h_kt_dict_SizeSet : PySem.W.kitOne K (.type "dict") (.ref c_SizeSet) = some false)
    (h_kt_SizeSet_SizeSet : PySem.W.kitOne K (.ref c_SizeSet) (.ref c_SizeSet) = some true)
    (h_F_is_whole : FunD K "is_whole" "is_whole" (defArgs s_is_whole) (defBody s_is_whole) (defScope s_is_whole) [] [] f_is_whole fd_is_whole)
    (h_F_is_whole_from : FunD K "is_whole_from" "is_whole_from" (defArgs s_is_whole_from) (defBody s_is_whole_from) (defScope s_is_whole_from) [] [] f_is_whole_from fd_is_whole_from)
    (h_F_is_ascending : FunD K "is_ascending" "is_ascending" (defArgs s_is_ascending) (defBody s_is_ascending) (defScope s_is_ascending) [] [] f_is_ascending fd_is_ascending)
    (h_F_check_parts : FunD K "check_parts" "check_parts" (defArgs s_check_parts) (defBody s_check_parts) (defScope s_check_parts) [] [] f_check_parts fd_check_parts)
    (h_F_least_start : FunD K "least_start" "least_start" (defArgs s_least_start) (defBody s_least_start) (defScope s_least_start) [] [] f_least_start fd_least_start)
    (h_F_marks_of : FunD K "marks_of" "marks_of" (defArgs s_marks_of) (defBody s_marks_of) (defScope s_marks_of) [] [] f_marks_of fd_marks_of)
    (h_F_shortest : FunD K "shortest" "shortest" (defArgs s_shortest) (defBody s_shortest) (defScope s_shortest) [] [] f_shortest fd_shortest)
    (h_F_SizeSetu__initu_ : FunD K "__init__" "SizeSet.__init__" (defArgs s_SizeSetu__initu_) (defBody s_SizeSetu__initu_) (defScope s_SizeSetu__initu_) [] [] f_SizeSetu__initu_ fd_SizeSetu__initu_)
    (h_F_SizeSet_start : FunD K "start" "SizeSet.start" (defArgs s_SizeSet_start) (defBody s_SizeSet_start) (defScope s_SizeSet_start) [] [] f_SizeSet_start fd_SizeSet_start)
    (h_F_SizeSet_period : FunD K "period" "SizeSet.period" (defArgs s_SizeSet_period) (defBody s_SizeSet_period) (defScope s_SizeSet_period) [] [] f_SizeSet_period fd_SizeSet_period)
    (h_F_SizeSetu__containsu_ : FunD K "__contains__" "SizeSet.__contains__" (defArgs s_SizeSetu__containsu_) (defBody s_SizeSetu__containsu_) (defScope s_SizeSetu__containsu_) [] [] f_SizeSetu__containsu_ fd_SizeSetu__containsu_)
    (h_F_common_parts : FunD K "common_parts" "common_parts" (defArgs s_common_parts) (defBody s_common_parts) (defScope s_common_parts) [] [] f_common_parts fd_common_parts)
    (h_F_set_of : FunD K "set_of" "set_of" (defArgs s_set_of) (defBody s_set_of) (defScope s_set_of) [] [] f_set_of fd_set_of)
    (h_F_SizeSetu__andu_ : FunD K "__and__" "SizeSet.__and__" (defArgs s_SizeSetu__andu_) (defBody s_SizeSetu__andu_) (defScope s_SizeSetu__andu_) [] [] f_SizeSetu__andu_ fd_SizeSetu__andu_)
    (h_F_SizeSetu__oru_ : FunD K "__or__" "SizeSet.__or__" (defArgs s_SizeSetu__oru_) (defBody s_SizeSetu__oru_) (defScope s_SizeSetu__oru_) [] [] f_SizeSetu__oru_ fd_SizeSetu__oru_)
    (h_F_SizeSetu__leu_ : FunD K "__le__" "SizeSet.__le__" (defArgs s_SizeSetu__leu_) (defBody s_SizeSetu__leu_) (defScope s_SizeSetu__leu_) [] [] f_SizeSetu__leu_ fd_SizeSetu__leu_)
    (h_F_SizeSetu__boolu_ : FunD K "__bool__" "SizeSet.__bool__" (defArgs s_SizeSetu__boolu_) (defBody s_SizeSetu__boolu_) (defScope s_SizeSetu__boolu_) [] [] f_SizeSetu__boolu_ fd_SizeSetu__boolu_)
    (h_i_SizeSet_least : PySem.W.isFn K (.ref f_SizeSet_least) = true)
    (h_F_SizeSet_least : FunD K "least" "SizeSet.least" (defArgs s_SizeSet_least) (defBody s_SizeSet_least) (defScope s_SizeSet_least) [] [] f_SizeSet_least fd_SizeSet_least)
    (h_rd_SizeSet : PySem.W.readsIn K c_SizeSet (.type "type") = true)
    (h_ga_SizeSet : PySem.W.specialIn K (.ref c_SizeSet) "__getattribute__" = some (some (.builtin "type.__getattribute__")))
    (h_F_SizeSet_none : FunD K "none" "SizeSet.none" (defArgs s_SizeSet_none) (defBody s_SizeSet_none) (defScope s_SizeSet_none) [] [] f_SizeSet_none fd_SizeSet_none)
    (h_F_SizeSet_full_set : FunD K "full_set" "SizeSet.full_set" (defArgs s_SizeSet_full_set) (defBody s_SizeSet_full_set) (defScope s_SizeSet_full_set) [] [] f_SizeSet_full_set fd_SizeSet_full_set)
    (h_F_l_source : FunD K "_law_source" "_law_source" (defArgs s_l_source) (defBody s_l_source) (defScope s_l_source) [] [] f_l_source fd_l_source)
    (h_F_l_draw : FunD K "_law_draw" "_law_draw" (defArgs s_l_draw) (defBody s_l_draw) (defScope s_l_draw) [] [] f_l_draw fd_l_draw)
    (h_F_l_pick : FunD K "_law_pick" "_law_pick" (defArgs s_l_pick) (defBody s_l_pick) (defScope s_l_pick) [] [] f_l_pick fd_l_pick)
    (h_F_l_told : FunD K "_law_told" "_law_told" (defArgs s_l_told) (defBody s_l_told) (defScope s_l_told) [] [] f_l_told fd_l_told)
    (h_F_l_made : FunD K "_law_made" "_law_made" (defArgs s_l_made) (defBody s_l_made) (defScope s_l_made) [] [] f_l_made fd_l_made)
    (h_F_l_joined : FunD K "_law_joined" "_law_joined" (defArgs s_l_joined) (defBody s_l_joined) (defScope s_l_joined) [] [] f_l_joined fd_l_joined)
    (h_F_l_wrong : FunD K "_law_wrong" "_law_wrong" (defArgs s_l_wrong) (defBody s_l_wrong) (defScope s_l_wrong) [] [] f_l_wrong fd_l_wrong)
    (h_F_law : FunD K "law" "law" (defArgs s_law) (defBody s_law) (defScope s_law) [] [] f_law fd_law)
    (h_pg_SizeSet_start : PySem.W.specialIn K (.ref p_SizeSet_start) "__get__" = some (some (.builtin "property.__get__")))
    (h_pt_SizeSet_start : PySem.W.takesIn K (.ref p_SizeSet_start) = some true)
    (h_pg_SizeSet_period : PySem.W.specialIn K (.ref p_SizeSet_period) "__get__" = some (some (.builtin "property.__get__")))
    (h_pt_SizeSet_period : PySem.W.takesIn K (.ref p_SizeSet_period) = some true)
    (h_i_SizeSetu__containsu_ : PySem.W.isFn K (.ref f_SizeSetu__containsu_) = true)
    (h_sf_SizeSet : PySem.W.selfFirst K c_SizeSet = true)
    (h_i_SizeSetu__andu_ : PySem.W.isFn K (.ref f_SizeSetu__andu_) = true)
    (h_rc_SizeSetu__andu_ : PySem.W.findIn K (.ref c_SizeSet) (dunderR (Operator.info .BitAnd).2) = some rc_SizeSetu__andu_)
    (h_rp_SizeSetu__andu_ : rc_SizeSetu__andu_ = none ∨ ∃ g : Addr, rc_SizeSetu__andu_ = some (.ref g))
    (h_vfNoneType_SizeSetu__andu_ : PySem.W.findIn K (.type "NoneType") (PySem.dunder (Operator.info .BitAnd).2) = some nfo_NoneType_SizeSetu__andu_)
    (h_vrNoneType_SizeSetu__andu_ : PySem.W.findIn K (.type "NoneType") (dunderR (Operator.info .BitAnd).2) = some nro_NoneType_SizeSetu__andu_)
    (h_vsNoneType_SizeSet : PySem.W.subIn K (.type "NoneType") (.ref c_SizeSet) = some false)
    (h_vfint_SizeSetu__andu_ : PySem.W.findIn K (.type "int") (PySem.dunder (Operator.info .BitAnd).2) = some nfo_int_SizeSetu__andu_)
    (h_vrint_SizeSetu__andu_ : PySem.W.findIn K (.type "int") (dunderR (Operator.info .BitAnd).2) = some nro_int_SizeSetu__andu_)
    (h_vsint_SizeSet : PySem.W.subIn K (.type "int") (.ref c_SizeSet) = some false)
    (h_vfbool_SizeSetu__andu_ : PySem.W.findIn K (.type "bool") (PySem.dunder (Operator.info .BitAnd).2) = some nfo_bool_SizeSetu__andu_)
    (h_vrbool_SizeSetu__andu_ : PySem.W.findIn K (.type "bool") (dunderR (Operator.info .BitAnd).2) = some nro_bool_SizeSetu__andu_)
    (h_vsbool_SizeSet : PySem.W.subIn K (.type "bool") (.ref c_SizeSet) = some false)
    (h_vfstr_SizeSetu__andu_ : PySem.W.findIn K (.type "str") (PySem.dunder (Operator.info .BitAnd).2) = some nfo_str_SizeSetu__andu_)
    (h_vrstr_SizeSetu__andu_ : PySem.W.findIn K (.type "str") (dunderR (Operator.info .BitAnd).2) = some nro_str_SizeSetu__andu_)
    (h_vsstr_SizeSet : PySem.W.subIn K (.type "str") (.ref c_SizeSet) = some false)
    (h_vftuple_SizeSetu__andu_ : PySem.W.findIn K (.type "tuple") (PySem.dunder (Operator.info .BitAnd).2) = some nfo_tuple_SizeSetu__andu_)
    (h_vrtuple_SizeSetu__andu_ : PySem.W.findIn K (.type "tuple") (dunderR (Operator.info .BitAnd).2) = some nro_tuple_SizeSetu__andu_)
    (h_vstuple_SizeSet : PySem.W.subIn K (.type "tuple") (.ref c_SizeSet) = some false)
    (h_vflist_SizeSetu__andu_ : PySem.W.findIn K (.type "list") (PySem.dunder (Operator.info .BitAnd).2) = some nfo_list_SizeSetu__andu_)
    (h_vrlist_SizeSetu__andu_ : PySem.W.findIn K (.type "list") (dunderR (Operator.info .BitAnd).2) = some nro_list_SizeSetu__andu_)
    (h_vslist_SizeSet : PySem.W.subIn K (.type "list") (.ref c_SizeSet) = some false)
    (h_vfdict_SizeSetu__andu_ : PySem.W.findIn K (.type "dict") (PySem.dunder (Operator.info .BitAnd).2) = some nfo_dict_SizeSetu__andu_)
    (h_vrdict_SizeSetu__andu_ : PySem.W.findIn K (.type "dict") (dunderR (Operator.info .BitAnd).2) = some nro_dict_SizeSetu__andu_)
    (h_vsdict_SizeSet : PySem.W.subIn K (.type "dict") (.ref c_SizeSet) = some false)
    (h_i_SizeSetu__oru_ : PySem.W.isFn K (.ref f_SizeSetu__oru_) = true)
    (h_rc_SizeSetu__oru_ : PySem.W.findIn K (.ref c_SizeSet) (dunderR (Operator.info .BitOr).2) = some rc_SizeSetu__oru_)
    (h_rp_SizeSetu__oru_ : rc_SizeSetu__oru_ = none ∨ ∃ g : Addr, rc_SizeSetu__oru_ = some (.ref g))
    (h_vfNoneType_SizeSetu__oru_ : PySem.W.findIn K (.type "NoneType") (PySem.dunder (Operator.info .BitOr).2) = some nfo_NoneType_SizeSetu__oru_)
    (h_vrNoneType_SizeSetu__oru_ : PySem.W.findIn K (.type "NoneType") (dunderR (Operator.info .BitOr).2) = some nro_NoneType_SizeSetu__oru_)
    (h_vfint_SizeSetu__oru_ : PySem.W.findIn K (.type "int") (PySem.dunder (Operator.info .BitOr).2) = some nfo_int_SizeSetu__oru_)
    (h_vrint_SizeSetu__oru_ : PySem.W.findIn K (.type "int") (dunderR (Operator.info .BitOr).2) = some nro_int_SizeSetu__oru_)
    (h_vfbool_SizeSetu__oru_ : PySem.W.findIn K (.type "bool") (PySem.dunder (Operator.info .BitOr).2) = some nfo_bool_SizeSetu__oru_)
    (h_vrbool_SizeSetu__oru_ : PySem.W.findIn K (.type "bool") (dunderR (Operator.info .BitOr).2) = some nro_bool_SizeSetu__oru_)
    (h_vfstr_SizeSetu__oru_ : PySem.W.findIn K (.type "str") (PySem.dunder (Operator.info .BitOr).2) = some nfo_str_SizeSetu__oru_)
    (h_vrstr_SizeSetu__oru_ : PySem.W.findIn K (.type "str") (dunderR (Operator.info .BitOr).2) = some nro_str_SizeSetu__oru_)
    (h_vftuple_SizeSetu__oru_ : PySem.W.findIn K (.type "tuple") (PySem.dunder (Operator.info .BitOr).2) = some nfo_tuple_SizeSetu__oru_)
    (h_vrtuple_SizeSetu__oru_ : PySem.W.findIn K (.type "tuple") (dunderR (Operator.info .BitOr).2) = some nro_tuple_SizeSetu__oru_)
    (h_vflist_SizeSetu__oru_ : PySem.W.findIn K (.type "list") (PySem.dunder (Operator.info .BitOr).2) = some nfo_list_SizeSetu__oru_)
    (h_vrlist_SizeSetu__oru_ : PySem.W.findIn K (.type "list") (dunderR (Operator.info .BitOr).2) = some nro_list_SizeSetu__oru_)
    (h_vfdict_SizeSetu__oru_ : PySem.W.findIn K (.type "dict") (PySem.dunder (Operator.info .BitOr).2) = some nfo_dict_SizeSetu__oru_)
    (h_vrdict_SizeSetu__oru_ : PySem.W.findIn K (.type "dict") (dunderR (Operator.info .BitOr).2) = some nro_dict_SizeSetu__oru_)
    (h_i_SizeSetu__leu_ : PySem.W.isFn K (.ref f_SizeSetu__leu_) = true)
    (h_i_SizeSetu__boolu_ : PySem.W.isFn K (.ref f_SizeSetu__boolu_) = true)
    (h_nf_SizeSet_SizeSet : PySem.W.notFirst K c_SizeSet (.ref c_SizeSet) = true)
    (h_nf_NoneType_SizeSet : PySem.W.notFirst K c_SizeSet (.type "NoneType") = true)
    (h_nf_int_SizeSet : PySem.W.notFirst K c_SizeSet (.type "int") = true)
    (h_nf_bool_SizeSet : PySem.W.notFirst K c_SizeSet (.type "bool") = true)
    (h_nf_str_SizeSet : PySem.W.notFirst K c_SizeSet (.type "str") = true)
    (h_nf_tuple_SizeSet : PySem.W.notFirst K c_SizeSet (.type "tuple") = true)
    (h_nf_list_SizeSet : PySem.W.notFirst K c_SizeSet (.type "list") = true)
    (h_nf_dict_SizeSet : PySem.W.notFirst K c_SizeSet (.type "dict") = true)
    (h_kt_NoSet_in_NoForm : PySem.W.kitOne K (.ref c_NoSet) (.ref c_NoForm) = some false)
    (h_kt_NoSet_in_NoCounter : PySem.W.kitOne K (.ref c_NoSet) (.ref c_NoCounter) = some false)
    (h_kt_NoSet_in_NoScheme : PySem.W.kitOne K (.ref c_NoSet) (.ref c_NoScheme) = some false)
    (h_kt_NoSet_in_NoSize : PySem.W.kitOne K (.ref c_NoSet) (.ref c_NoSize) = some false)
    (h_kt_NoSet_in_NoRing : PySem.W.kitOne K (.ref c_NoSet) (.ref c_NoRing) = some false)
    (h_kt_NoSet_in_Outside : PySem.W.kitOne K (.ref c_NoSet) (.ref c_Outside) = some false)
    (h_kt_NoSet_in_NoRun : PySem.W.kitOne K (.ref c_NoSet) (.ref c_NoRun) = some false)
    (h_kt_NoSet_in_NoSet : PySem.W.kitOne K (.ref c_NoSet) (.ref c_NoSet) = some true)
    (h_kt_NoSet_in_TooLong : PySem.W.kitOne K (.ref c_NoSet) (.ref c_TooLong) = some false)
    (h_kt_NoSet_in_VE : PySem.W.kitOne K (.ref c_NoSet) (.type "ValueError") = some true)
    (h_sb_RingError : PySem.W.subIn K (.ref c_RingError) (.type "BaseException") = some true)
    (h_hd_RingError : PySem.W.hasDictIn K c_RingError = true)
    (h_tc_RingError : PySem.W.typeIn K (.ref c_RingError) = some (.type "type"))
    (h_sr_NoSet : PySem.W.subIn K (.ref c_NoSet) (.ref c_RingError) = some true)
    (h_ecg_NoSet : PySem.W.findIn K (.ref c_NoSet) "__getattribute__" = some (some (.builtin "BaseException.__getattribute__")))
    (h_eck_NoSet : PySem.W.findIn K (.ref c_NoSet) "__getattr__" = some none)
    (h_hd_NoSet : PySem.W.hasDictIn K c_NoSet = true)
    (h_eca_NoSet : PySem.W.findIn K (.ref c_NoSet) "__class__" = some (some (.builtin "object.__class__")))
    (h_ecn : PySem.W.specialIn K (.builtin "object.__class__") "__get__" = some (some (.builtin "getset_descriptor.__get__")))
    (h_ect : PySem.W.takesIn K (.builtin "object.__class__") = some true)
    (h_ecm_NoSet : PySem.W.mroIn K c_NoSet (.type "object") = some true)
    (h_kt_TooLong_in_NoForm : PySem.W.kitOne K (.ref c_TooLong) (.ref c_NoForm) = some false)
    (h_kt_TooLong_in_NoCounter : PySem.W.kitOne K (.ref c_TooLong) (.ref c_NoCounter) = some false)
    (h_kt_TooLong_in_NoScheme : PySem.W.kitOne K (.ref c_TooLong) (.ref c_NoScheme) = some false)
    (h_kt_TooLong_in_NoSize : PySem.W.kitOne K (.ref c_TooLong) (.ref c_NoSize) = some false)
    (h_kt_TooLong_in_NoRing : PySem.W.kitOne K (.ref c_TooLong) (.ref c_NoRing) = some false)
    (h_kt_TooLong_in_Outside : PySem.W.kitOne K (.ref c_TooLong) (.ref c_Outside) = some false)
    (h_kt_TooLong_in_NoRun : PySem.W.kitOne K (.ref c_TooLong) (.ref c_NoRun) = some false)
    (h_kt_TooLong_in_NoSet : PySem.W.kitOne K (.ref c_TooLong) (.ref c_NoSet) = some false)
    (h_kt_TooLong_in_TooLong : PySem.W.kitOne K (.ref c_TooLong) (.ref c_TooLong) = some true)
    (h_kt_TooLong_in_VE : PySem.W.kitOne K (.ref c_TooLong) (.type "ValueError") = some true)
    (h_sr_TooLong : PySem.W.subIn K (.ref c_TooLong) (.ref c_RingError) = some true)
    (h_ecg_TooLong : PySem.W.findIn K (.ref c_TooLong) "__getattribute__" = some (some (.builtin "BaseException.__getattribute__")))
    (h_eck_TooLong : PySem.W.findIn K (.ref c_TooLong) "__getattr__" = some none)
    (h_hd_TooLong : PySem.W.hasDictIn K c_TooLong = true)
    (h_eca_TooLong : PySem.W.findIn K (.ref c_TooLong) "__class__" = some (some (.builtin "object.__class__")))
    (h_ecm_TooLong : PySem.W.mroIn K c_TooLong (.type "object") = some true)
    : ∃ fd : FuncData, (∀ (s : Shared) (v : Value), BindsTo s fd ⟨[v], []⟩ [("_law_script", v)]) ∧ ∀ base : Heap, K.In base → base.Ns mainGlobals mg → FnOk l.prog w K mg base CX0 10 fa fd ["_law_script"] (sp_law K) := by
  have e := hfa.symm.trans (PySem.W.mg_of X G h_m_law)
  cases e
  have T : Txt w K mg ⟨f_is_whole, fd_is_whole, f_is_whole_from, fd_is_whole_from, f_is_ascending, fd_is_ascending, f_check_parts, fd_check_parts, f_least_start, fd_least_start, f_marks_of, fd_marks_of, f_shortest, fd_shortest, f_SizeSetu__initu_, fd_SizeSetu__initu_, f_SizeSet_start, fd_SizeSet_start, f_SizeSet_period, fd_SizeSet_period, f_SizeSetu__containsu_, fd_SizeSetu__containsu_, f_common_parts, fd_common_parts, f_set_of, fd_set_of, f_SizeSetu__andu_, fd_SizeSetu__andu_, f_SizeSetu__oru_, fd_SizeSetu__oru_, f_SizeSetu__leu_, fd_SizeSetu__leu_, f_SizeSetu__boolu_, fd_SizeSetu__boolu_, f_SizeSet_least, fd_SizeSet_least, f_SizeSet_none, fd_SizeSet_none, f_SizeSet_full_set, fd_SizeSet_full_set, f_l_source, fd_l_source, f_l_draw, fd_l_draw, f_l_pick, fd_l_pick, f_l_told, fd_l_told, f_l_made, fd_l_made, f_l_joined, fd_l_joined, f_l_wrong, fd_l_wrong, fa, fd_law, c_SizeSet, c_RingError, c_NoForm, c_NoCounter, c_NoScheme, c_NoSize, c_NoRing, c_Outside, c_NoRun, c_NoSet, c_TooLong, p_SizeSet_start, p_SizeSet_period, t_GREATEST_START, t_GREATEST_PERIOD⟩ := {
    n_ValueError := PySem.W.mg_none_of X G h_n_ValueError,
    n_abs := PySem.W.mg_none_of X G h_n_abs,
    n_all := PySem.W.mg_none_of X G h_n_all,
    n_bool := PySem.W.mg_none_of X G h_n_bool,
    n_int := PySem.W.mg_none_of X G h_n_int,
    n_isinstance := PySem.W.mg_none_of X G h_n_isinstance,
    n_len := PySem.W.mg_none_of X G h_n_len,
    n_list := PySem.W.mg_none_of X G h_n_list,
    n_max := PySem.W.mg_none_of X G h_n_max,
    n_min := PySem.W.mg_none_of X G h_n_min,
    n_range := PySem.W.mg_none_of X G h_n_range,
    n_sorted := PySem.W.mg_none_of X G h_n_sorted,
    m_GREATEST_START := PySem.W.mg_of X G h_m_GREATEST_START,
    m_GREATEST_PERIOD := PySem.W.mg_of X G h_m_GREATEST_PERIOD,
    m_lcm := PySem.W.mg_of X G h_m_lcm,
    m_NoSet := PySem.W.mg_of X G h_m_NoSet,
    x_NoSet := h_x_NoSet,
    kp_NoSet := h_kp_NoSet,
    sb_NoSet := h_sb_NoSet,
    tc_NoSet := h_tc_NoSet,
    m_TooLong := PySem.W.mg_of X G h_m_TooLong,
    x_TooLong := h_x_TooLong,
    kp_TooLong := h_kp_TooLong,
    sb_TooLong := h_sb_TooLong,
    tc_TooLong := h_tc_TooLong,
    m_SizeSet := PySem.W.mg_of X G h_m_SizeSet,
    k_SizeSet := ⟨h_pg_SizeSet, h_hd_SizeSet, h_po_SizeSet, h_sa_SizeSet⟩,
    n_SizeSet_period := h_n_SizeSet_period,
    n_SizeSet_start := h_n_SizeSet_start,
    n_SizeSet_early := h_n_SizeSet_early,
    n_SizeSet_rests := h_n_SizeSet_rests,
    n_SizeSet_early_marks := h_n_SizeSet_early_marks,
    n_SizeSet_rest_marks := h_n_SizeSet_rest_marks,
    K_SizeSet := ⟨h_mk_SizeSet, h_in_SizeSet, h_ii_SizeSet, h_kp_SizeSet⟩,
    i_SizeSet := ⟨h_ha_SizeSet, h_hn_SizeSet, h_htk_SizeSet, h_mo_SizeSet⟩,
    kt_NoneType_SizeSet := h_kt_NoneType_SizeSet,
    kt_int_SizeSet := h_kt_int_SizeSet,
    kt_bool_SizeSet := h_kt_bool_SizeSet,
    kt_str_SizeSet := h_kt_str_SizeSet,
    kt_tuple_SizeSet := h_kt_tuple_SizeSet,
    kt_list_SizeSet := h_kt_list_SizeSet,
    kt_dict_SizeSet := h_kt_dict_SizeSet,
    kt_SizeSet_SizeSet := h_kt_SizeSet_SizeSet,
    m_RingError := PySem.W.mg_of X G h_m_RingError,
    m_NoForm := PySem.W.mg_of X G h_m_NoForm,
    m_NoCounter := PySem.W.mg_of X G h_m_NoCounter,
    m_NoScheme := PySem.W.mg_of X G h_m_NoScheme,
    m_NoSize := PySem.W.mg_of X G h_m_NoSize,
    m_NoRing := PySem.W.mg_of X G h_m_NoRing,
    m_Outside := PySem.W.mg_of X G h_m_Outside,
    m_NoRun := PySem.W.mg_of X G h_m_NoRun,
    m_is_whole := PySem.W.mg_of X G h_m_is_whole,
    F_is_whole := Hd.plain h_F_is_whole,
    b_is_whole := (Hd.plain h_F_is_whole).binds fun _ _ _ _ _ _ us hl => match us, hl with | [_], _ => rfl,
    m_is_whole_from := PySem.W.mg_of X G h_m_is_whole_from,
    F_is_whole_from := Hd.plain h_F_is_whole_from,
    b_is_whole_from := (Hd.plain h_F_is_whole_from).binds fun _ _ _ _ _ _ us hl => match us, hl with | [_, _, _], _ => rfl,
    m_is_ascending := PySem.W.mg_of X G h_m_is_ascending,
    F_is_ascending := Hd.plain h_F_is_ascending,
    b_is_ascending := (Hd.plain h_F_is_ascending).binds fun _ _ _ _ _ _ us hl => match us, hl with | [_, _, _], _ => rfl,
    m_check_parts := PySem.W.mg_of X G h_m_check_parts,
    F_check_parts := Hd.plain h_F_check_parts,
    b_check_parts := (Hd.plain h_F_check_parts).binds fun _ _ _ _ _ _ us hl => match us, hl with | [_, _, _, _], _ => rfl,
    m_least_start := PySem.W.mg_of X G h_m_least_start,
    F_least_start := Hd.plain h_F_least_start,
    b_least_start := (Hd.plain h_F_least_start).binds fun _ _ _ _ _ _ us hl => match us, hl with | [_, _], _ => rfl,
    m_marks_of := PySem.W.mg_of X G h_m_marks_of,
    F_marks_of := Hd.plain h_F_marks_of,
    b_marks_of := (Hd.plain h_F_marks_of).binds fun _ _ _ _ _ _ us hl => match us, hl with | [_, _], _ => rfl,
    m_shortest := PySem.W.mg_of X G h_m_shortest,
    F_shortest := Hd.plain h_F_shortest,
    b_shortest := (Hd.plain h_F_shortest).binds fun _ _ _ _ _ _ us hl => match us, hl with | [_], _ => rfl,
    F_SizeSetu__initu_ := Hd.plain h_F_SizeSetu__initu_,
    b_SizeSetu__initu_ := (Hd.plain h_F_SizeSetu__initu_).binds fun _ _ _ _ _ _ us hl => match us, hl with | [_, _, _, _, _], _ => rfl,
    F_SizeSet_start := Hd.plain h_F_SizeSet_start,
    b_SizeSet_start := (Hd.plain h_F_SizeSet_start).binds fun _ _ _ _ _ _ us hl => match us, hl with | [_], _ => rfl,
    F_SizeSet_period := Hd.plain h_F_SizeSet_period,
    b_SizeSet_period := (Hd.plain h_F_SizeSet_period).binds fun _ _ _ _ _ _ us hl => match us, hl with | [_], _ => rfl,
    F_SizeSetu__containsu_ := Hd.plain h_F_SizeSetu__containsu_,
    b_SizeSetu__containsu_ := (Hd.plain h_F_SizeSetu__containsu_).binds fun _ _ _ _ _ _ us hl => match us, hl with | [_, _], _ => rfl,
    m_common_parts := PySem.W.mg_of X G h_m_common_parts,
    F_common_parts := Hd.plain h_F_common_parts,
    b_common_parts := (Hd.plain h_F_common_parts).binds fun _ _ _ _ _ _ us hl => match us, hl with | [_, _], _ => rfl,
    m_set_of := PySem.W.mg_of X G h_m_set_of,
    F_set_of := Hd.plain h_F_set_of,
    b_set_of := (Hd.plain h_F_set_of).binds fun _ _ _ _ _ _ us hl => match us, hl with | [_, _, _], _ => rfl,
    F_SizeSetu__andu_ := Hd.plain h_F_SizeSetu__andu_,
    b_SizeSetu__andu_ := (Hd.plain h_F_SizeSetu__andu_).binds fun _ _ _ _ _ _ us hl => match us, hl with | [_, _], _ => rfl,
    F_SizeSetu__oru_ := Hd.plain h_F_SizeSetu__oru_,
    b_SizeSetu__oru_ := (Hd.plain h_F_SizeSetu__oru_).binds fun _ _ _ _ _ _ us hl => match us, hl with | [_, _], _ => rfl,
    F_SizeSetu__leu_ := Hd.plain h_F_SizeSetu__leu_,
    b_SizeSetu__leu_ := (Hd.plain h_F_SizeSetu__leu_).binds fun _ _ _ _ _ _ us hl => match us, hl with | [_, _], _ => rfl,
    F_SizeSetu__boolu_ := Hd.plain h_F_SizeSetu__boolu_,
    b_SizeSetu__boolu_ := (Hd.plain h_F_SizeSetu__boolu_).binds fun _ _ _ _ _ _ us hl => match us, hl with | [_], _ => rfl,
    M_SizeSet_least := ⟨h_a_SizeSet_least, h_i_SizeSet_least, h_F_SizeSet_least.kp⟩,
    F_SizeSet_least := Hd.plain h_F_SizeSet_least,
    b_SizeSet_least := (Hd.plain h_F_SizeSet_least).binds fun _ _ _ _ _ _ us hl => match us, hl with | [_], _ => rfl,
    S_SizeSet_none := ⟨h_rd_SizeSet, h_ga_SizeSet, ⟨_, _, h_a1_SizeSet_none, h_a2_SizeSet_none⟩, h_F_SizeSet_none.kp⟩,
    F_SizeSet_none := Hd.plain h_F_SizeSet_none,
    b_SizeSet_none := (Hd.plain h_F_SizeSet_none).binds fun _ _ _ _ _ _ us hl => match us, hl with | [], _ => rfl,
    S_SizeSet_full_set := ⟨h_rd_SizeSet, h_ga_SizeSet, ⟨_, _, h_a1_SizeSet_full_set, h_a2_SizeSet_full_set⟩, h_F_SizeSet_full_set.kp⟩,
    F_SizeSet_full_set := Hd.plain h_F_SizeSet_full_set,
    b_SizeSet_full_set := (Hd.plain h_F_SizeSet_full_set).binds fun _ _ _ _ _ _ us hl => match us, hl with | [], _ => rfl,
    m_l_source := PySem.W.mg_of X G h_m_l_source,
    F_l_source := Hd.plain h_F_l_source,
    b_l_source := (Hd.plain h_F_l_source).binds fun _ _ _ _ _ _ us hl => match us, hl with | [_, _], _ => rfl,
    m_l_draw := PySem.W.mg_of X G h_m_l_draw,
    F_l_draw := Hd.plain h_F_l_draw,
    b_l_draw := (Hd.plain h_F_l_draw).binds fun _ _ _ _ _ _ us hl => match us, hl with | [_, _], _ => rfl,
    m_l_pick := PySem.W.mg_of X G h_m_l_pick,
    F_l_pick := Hd.plain h_F_l_pick,
    b_l_pick := (Hd.plain h_F_l_pick).binds fun _ _ _ _ _ _ us hl => match us, hl with | [_, _], _ => rfl,
    m_l_told := PySem.W.mg_of X G h_m_l_told,
    F_l_told := Hd.plain h_F_l_told,
    b_l_told := (Hd.plain h_F_l_told).binds fun _ _ _ _ _ _ us hl => match us, hl with | [_], _ => rfl,
    m_l_made := PySem.W.mg_of X G h_m_l_made,
    F_l_made := Hd.plain h_F_l_made,
    b_l_made := (Hd.plain h_F_l_made).binds fun _ _ _ _ _ _ us hl => match us, hl with | [_, _, _, _], _ => rfl,
    m_l_joined := PySem.W.mg_of X G h_m_l_joined,
    F_l_joined := Hd.plain h_F_l_joined,
    b_l_joined := (Hd.plain h_F_l_joined).binds fun _ _ _ _ _ _ us hl => match us, hl with | [_, _, _], _ => rfl,
    m_l_wrong := PySem.W.mg_of X G h_m_l_wrong,
    F_l_wrong := Hd.plain h_F_l_wrong,
    b_l_wrong := (Hd.plain h_F_l_wrong).binds fun _ _ _ _ _ _ us hl => match us, hl with | [_], _ => rfl,
    m_law := PySem.W.mg_of X G h_m_law,
    F_law := Hd.plain h_F_law,
    b_law := (Hd.plain h_F_law).binds fun _ _ _ _ _ _ us hl => match us, hl with | [_], _ => rfl,
    R_SizeSet_start := ⟨h_a1_SizeSet_start, h_pg_SizeSet_start, h_pt_SizeSet_start, ⟨_, h_a2_SizeSet_start⟩⟩,
    R_SizeSet_period := ⟨h_a1_SizeSet_period, h_pg_SizeSet_period, h_pt_SizeSet_period, ⟨_, h_a2_SizeSet_period⟩⟩,
    O_SizeSetu__containsu__1 := ⟨h_a_SizeSetu__containsu_, h_i_SizeSetu__containsu_⟩,
    O_SizeSetu__andu__S := ⟨h_sf_SizeSet, h_bn_SizeSetu__andu_, h_i_SizeSetu__andu_⟩,
    O_SizeSetu__andu__V := ⟨⟨h_sf_SizeSet, h_bn_SizeSetu__andu_, h_i_SizeSetu__andu_⟩, ⟨_, h_rc_SizeSetu__andu_, h_rp_SizeSetu__andu_⟩, (by intro T9 hT9; simp only [List.mem_cons, List.not_mem_nil, or_false] at hT9; rcases hT9 with rfl | rfl | rfl | rfl | rfl | rfl | rfl; exact ⟨⟨_, _, h_vfNoneType_SizeSetu__andu_, h_vrNoneType_SizeSetu__andu_⟩, h_vsNoneType_SizeSet⟩; exact ⟨⟨_, _, h_vfint_SizeSetu__andu_, h_vrint_SizeSetu__andu_⟩, h_vsint_SizeSet⟩; exact ⟨⟨_, _, h_vfbool_SizeSetu__andu_, h_vrbool_SizeSetu__andu_⟩, h_vsbool_SizeSet⟩; exact ⟨⟨_, _, h_vfstr_SizeSetu__andu_, h_vrstr_SizeSetu__andu_⟩, h_vsstr_SizeSet⟩; exact ⟨⟨_, _, h_vftuple_SizeSetu__andu_, h_vrtuple_SizeSetu__andu_⟩, h_vstuple_SizeSet⟩; exact ⟨⟨_, _, h_vflist_SizeSetu__andu_, h_vrlist_SizeSetu__andu_⟩, h_vslist_SizeSet⟩; exact ⟨⟨_, _, h_vfdict_SizeSetu__andu_, h_vrdict_SizeSetu__andu_⟩, h_vsdict_SizeSet⟩)⟩,
    O_SizeSetu__oru__S := ⟨h_sf_SizeSet, h_bn_SizeSetu__oru_, h_i_SizeSetu__oru_⟩,
    O_SizeSetu__oru__V := ⟨⟨h_sf_SizeSet, h_bn_SizeSetu__oru_, h_i_SizeSetu__oru_⟩, ⟨_, h_rc_SizeSetu__oru_, h_rp_SizeSetu__oru_⟩, (by intro T9 hT9; simp only [List.mem_cons, List.not_mem_nil, or_false] at hT9; rcases hT9 with rfl | rfl | rfl | rfl | rfl | rfl | rfl; exact ⟨⟨_, _, h_vfNoneType_SizeSetu__oru_, h_vrNoneType_SizeSetu__oru_⟩, h_vsNoneType_SizeSet⟩; exact ⟨⟨_, _, h_vfint_SizeSetu__oru_, h_vrint_SizeSetu__oru_⟩, h_vsint_SizeSet⟩; exact ⟨⟨_, _, h_vfbool_SizeSetu__oru_, h_vrbool_SizeSetu__oru_⟩, h_vsbool_SizeSet⟩; exact ⟨⟨_, _, h_vfstr_SizeSetu__oru_, h_vrstr_SizeSetu__oru_⟩, h_vsstr_SizeSet⟩; exact ⟨⟨_, _, h_vftuple_SizeSetu__oru_, h_vrtuple_SizeSetu__oru_⟩, h_vstuple_SizeSet⟩; exact ⟨⟨_, _, h_vflist_SizeSetu__oru_, h_vrlist_SizeSetu__oru_⟩, h_vslist_SizeSet⟩; exact ⟨⟨_, _, h_vfdict_SizeSetu__oru_, h_vrdict_SizeSetu__oru_⟩, h_vsdict_SizeSet⟩)⟩,
    O_SizeSetu__leu__1 := ⟨h_a_SizeSetu__leu_, h_i_SizeSetu__leu_⟩,
    O_SizeSetu__boolu__1 := ⟨h_a_SizeSetu__boolu_, h_i_SizeSetu__boolu_⟩,
    nf_SizeSet_SizeSet := h_nf_SizeSet_SizeSet,
    nf_NoneType_SizeSet := h_nf_NoneType_SizeSet,
    nf_int_SizeSet := h_nf_int_SizeSet,
    nf_bool_SizeSet := h_nf_bool_SizeSet,
    nf_str_SizeSet := h_nf_str_SizeSet,
    nf_tuple_SizeSet := h_nf_tuple_SizeSet,
    nf_list_SizeSet := h_nf_list_SizeSet,
    nf_dict_SizeSet := h_nf_dict_SizeSet,
    kt_NoSet_in_NoForm := h_kt_NoSet_in_NoForm,
    kt_NoSet_in_NoCounter := h_kt_NoSet_in_NoCounter,
    kt_NoSet_in_NoScheme := h_kt_NoSet_in_NoScheme,
    kt_NoSet_in_NoSize := h_kt_NoSet_in_NoSize,
    kt_NoSet_in_NoRing := h_kt_NoSet_in_NoRing,
    kt_NoSet_in_Outside := h_kt_NoSet_in_Outside,
    kt_NoSet_in_NoRun := h_kt_NoSet_in_NoRun,
    kt_NoSet_in_NoSet := h_kt_NoSet_in_NoSet,
    kt_NoSet_in_TooLong := h_kt_NoSet_in_TooLong,
    kt_NoSet_in_VE := h_kt_NoSet_in_VE,
    xm_NoSet := PySem.W.exm_ref h_sb_RingError h_hd_RingError h_tc_RingError h_sr_NoSet,
    ec_NoSet := ⟨h_ecg_NoSet, h_eck_NoSet, h_sb_NoSet, h_hd_NoSet, h_eca_NoSet, h_ecn, h_ect, h_ecm_NoSet⟩,
    kt_TooLong_in_NoForm := h_kt_TooLong_in_NoForm,
    kt_TooLong_in_NoCounter := h_kt_TooLong_in_NoCounter,
    kt_TooLong_in_NoScheme := h_kt_TooLong_in_NoScheme,
    kt_TooLong_in_NoSize := h_kt_TooLong_in_NoSize,
    kt_TooLong_in_NoRing := h_kt_TooLong_in_NoRing,
    kt_TooLong_in_Outside := h_kt_TooLong_in_Outside,
    kt_TooLong_in_NoRun := h_kt_TooLong_in_NoRun,
    kt_TooLong_in_NoSet := h_kt_TooLong_in_NoSet,
    kt_TooLong_in_TooLong := h_kt_TooLong_in_TooLong,
    kt_TooLong_in_VE := h_kt_TooLong_in_VE,
    xm_TooLong := PySem.W.exm_ref h_sb_RingError h_hd_RingError h_tc_RingError h_sr_TooLong,
    ec_TooLong := ⟨h_ecg_TooLong, h_eck_TooLong, h_sb_TooLong, h_hd_TooLong, h_eca_TooLong, h_ecn, h_ect, h_ecm_TooLong⟩ }
  have bl := FunD.bindsA (ps := ["_law_script"]) h_F_law fun _ _ _ _ _ _ us hl => match us, hl with | [_], _ => rfl
  exact ⟨fd_law, fun s v => bl s [v] rfl, fun base _ _ => ok_law T⟩
theorem facts {P : PySem.W.OpenLaw} {w : World} {K : PySem.W.Frag} {h : Heap} {mg : Str → Option Value} {fa : Addr} (X : K.In h) (G : h.Ns mainGlobals mg) (hfa : mg "law" = some (.ref fa)) (c : Hd.tell fns tbs exs K = Hd.told fns tbs w) :
    ∃ fd : FuncData, (∀ (s : Shared) (v : Value), BindsTo s fd ⟨[v], []⟩ [("_law_script", v)]) ∧ ∀ base : Heap, K.In base → base.Ns mainGlobals mg → FnOk P.prog w K mg base CX0 10 fa fd ["_law_script"] (sp_law K) := by
  have e := Hd.exOf c
  obtain ⟨e0, e⟩ := He.ba e
  obtain ⟨h_n_ValueError, h_n_abs, h_n_all, h_n_bool, h_n_int, h_n_isinstance, h_n_len, h_n_list, h_n_max, h_n_min, h_n_range, h_n_sorted⟩ := (show Px0 K from of_decide_eq_true e0)
  obtain ⟨e1, e⟩ := He.ba e
  obtain ⟨h_m_GREATEST_START, h_m_GREATEST_PERIOD, h_m_lcm, h_m_NoSet, h_m_TooLong, h_m_SizeSet, h_n_SizeSet_period, h_n_SizeSet_start, h_n_SizeSet_early, h_n_SizeSet_rests, h_n_SizeSet_early_marks, h_n_SizeSet_rest_marks⟩ := (show Px1 K from of_decide_eq_true e1)
  obtain ⟨e2, e⟩ := He.ba e
  obtain ⟨h_m_RingError, h_m_NoForm, h_m_NoCounter, h_m_NoScheme, h_m_NoSize, h_m_NoRing, h_m_Outside, h_m_NoRun, h_m_is_whole, h_m_is_whole_from, h_m_is_ascending, h_m_check_parts⟩ := (show Px2 K from of_decide_eq_true e2)
  obtain ⟨e3, e⟩ := He.ba e
  obtain ⟨h_m_least_start, h_m_marks_of, h_m_shortest, h_m_common_parts, h_m_set_of, h_m_l_source, h_m_l_draw, h_m_l_pick, h_m_l_told, h_m_l_made, h_m_l_joined, h_m_l_wrong⟩ := (show Px3 K from of_decide_eq_true e3)
  obtain ⟨e4, e⟩ := He.ba e
  obtain ⟨h_m_law, h_in_SizeSet, h_a_SizeSet_least, h_a1_SizeSet_none, h_a1_SizeSet_full_set, h_a1_SizeSet_start, h_a1_SizeSet_period, h_a_SizeSetu__containsu_, h_bn_SizeSetu__andu_, h_bn_SizeSetu__oru_, h_a_SizeSetu__leu_, h_a_SizeSetu__boolu_⟩ := (show Px4 K from of_decide_eq_true e4)
  obtain ⟨e5, e⟩ := He.ba e
  obtain ⟨h_a2_SizeSet_none, h_a2_SizeSet_full_set, h_a2_SizeSet_start, h_a2_SizeSet_period, h_x_NoSet, h_kp_NoSet, h_sb_NoSet, h_tc_NoSet, h_x_TooLong, h_kp_TooLong, h_sb_TooLong, h_tc_TooLong⟩ := (show Px5 K from of_decide_eq_true e5)
  obtain ⟨e6, e⟩ := He.ba e
  obtain ⟨h_pg_SizeSet, h_hd_SizeSet, h_po_SizeSet, h_sa_SizeSet, h_mk_SizeSet, h_ii_SizeSet, h_kp_SizeSet, h_ha_SizeSet, h_mo_SizeSet, h_hn_SizeSet, h_htk_SizeSet, h_kt_NoneType_SizeSet⟩ := (show Px6 K from of_decide_eq_true e6)
  obtain ⟨e7, e⟩ := He.ba e
  obtain ⟨h_kt_int_SizeSet, h_kt_bool_SizeSet, h_kt_str_SizeSet, h_kt_tuple_SizeSet, h_kt_list_SizeSet, h_kt_dict_SizeSet, h_kt_SizeSet_SizeSet, h_i_SizeSet_least, h_rd_SizeSet, h_ga_SizeSet, h_pg_SizeSet_start, h_pt_SizeSet_start⟩ := (show Px7 K from of_decide_eq_true e7)
  obtain ⟨e8, e⟩ := He.ba e
  obtain ⟨h_pg_SizeSet_period, h_pt_SizeSet_period, h_i_SizeSetu__containsu_, h_sf_SizeSet, h_i_SizeSetu__andu_, h_rc_SizeSetu__andu_, h_rp_SizeSetu__andu_, h_vfNoneType_SizeSetu__andu_, h_vrNoneType_SizeSetu__andu_, h_vsNoneType_SizeSet, h_vfint_SizeSetu__andu_, h_vrint_SizeSetu__andu_⟩ := (show Px8 K from of_decide_eq_true e8)
  obtain ⟨e9, e⟩ := He.ba e
  obtain ⟨h_vsint_SizeSet, h_vfbool_SizeSetu__andu_, h_vrbool_SizeSetu__andu_, h_vsbool_SizeSet, h_vfstr_SizeSetu__andu_, h_vrstr_SizeSetu__andu_, h_vsstr_SizeSet, h_vftuple_SizeSetu__andu_, h_vrtuple_SizeSetu__andu_, h_vstuple_SizeSet, h_vflist_SizeSetu__andu_, h_vrlist_SizeSetu__andu_⟩ := (show Px9 K from of_decide_eq_true e9)
  obtain ⟨e10, e⟩ := He.ba e
  obtain ⟨h_vslist_SizeSet, h_vfdict_SizeSetu__andu_, h_vrdict_SizeSetu__andu_, h_vsdict_SizeSet, h_i_SizeSetu__oru_, h_rc_SizeSetu__oru_, h_rp_SizeSetu__oru_, h_vfNoneType_SizeSetu__oru_, h_vrNoneType_SizeSetu__oru_, h_vfint_SizeSetu__oru_, h_vrint_SizeSetu__oru_, h_vfbool_SizeSetu__oru_⟩ := (show Px10 K from of_decide_eq_true e10)
  obtain ⟨e11, e⟩ := He.ba e
  obtain ⟨h_vrbool_SizeSetu__oru_, h_vfstr_SizeSetu__oru_, h_vrstr_SizeSetu__oru_, h_vftuple_SizeSetu__oru_, h_vrtuple_SizeSetu__oru_, h_vflist_SizeSetu__oru_, h_vrlist_SizeSetu__oru_, h_vfdict_SizeSetu__oru_, h_vrdict_SizeSetu__oru_, h_i_SizeSetu__leu_, h_i_SizeSetu__boolu_, h_nf_SizeSet_SizeSet⟩ := (show Px11 K from of_decide_eq_true e11)
  obtain ⟨e12, e⟩ := He.ba e
  obtain ⟨h_nf_NoneType_SizeSet, h_nf_int_SizeSet, h_nf_bool_SizeSet, h_nf_str_SizeSet, h_nf_tuple_SizeSet, h_nf_list_SizeSet, h_nf_dict_SizeSet, h_kt_NoSet_in_NoForm, h_kt_NoSet_in_NoCounter, h_kt_NoSet_in_NoScheme, h_kt_NoSet_in_NoSize, h_kt_NoSet_in_NoRing⟩ := (show Px12 K from of_decide_eq_true e12)
  obtain ⟨e13, e⟩ := He.ba e
  obtain ⟨h_kt_NoSet_in_Outside, h_kt_NoSet_in_NoRun, h_kt_NoSet_in_NoSet, h_kt_NoSet_in_TooLong, h_kt_NoSet_in_VE, h_sb_RingError, h_hd_RingError, h_tc_RingError, h_sr_NoSet, h_ecg_NoSet, h_eck_NoSet, h_hd_NoSet⟩ := (show Px13 K from of_decide_eq_true e13)
  obtain ⟨e14, e⟩ := He.ba e
  obtain ⟨h_eca_NoSet, h_ecn, h_ect, h_ecm_NoSet, h_kt_TooLong_in_NoForm, h_kt_TooLong_in_NoCounter, h_kt_TooLong_in_NoScheme, h_kt_TooLong_in_NoSize, h_kt_TooLong_in_NoRing, h_kt_TooLong_in_Outside, h_kt_TooLong_in_NoRun, h_kt_TooLong_in_NoSet⟩ := (show Px14 K from of_decide_eq_true e14)
  obtain ⟨e15, e⟩ := He.ba e
  obtain ⟨h_kt_TooLong_in_TooLong, h_kt_TooLong_in_VE, h_sr_TooLong, h_ecg_TooLong, h_eck_TooLong, h_hd_TooLong, h_eca_TooLong, h_ecm_TooLong⟩ := (show Px15 K from of_decide_eq_true e15)
  obtain ⟨fd_is_whole, h_F_is_whole⟩ := Hd.fnOf c 0 (d := df0) rfl
  obtain ⟨fd_is_whole_from, h_F_is_whole_from⟩ := Hd.fnOf c 1 (d := df1) rfl
  obtain ⟨fd_is_ascending, h_F_is_ascending⟩ := Hd.fnOf c 2 (d := df2) rfl
  obtain ⟨fd_check_parts, h_F_check_parts⟩ := Hd.fnOf c 3 (d := df3) rfl
  obtain ⟨fd_least_start, h_F_least_start⟩ := Hd.fnOf c 4 (d := df4) rfl
  obtain ⟨fd_marks_of, h_F_marks_of⟩ := Hd.fnOf c 5 (d := df5) rfl
  obtain ⟨fd_shortest, h_F_shortest⟩ := Hd.fnOf c 6 (d := df6) rfl
  obtain ⟨fd_SizeSetu__initu_, h_F_SizeSetu__initu_⟩ := Hd.fnOf c 7 (d := df7) rfl
  obtain ⟨fd_SizeSet_start, h_F_SizeSet_start⟩ := Hd.fnOf c 8 (d := df8) rfl
  obtain ⟨fd_SizeSet_period, h_F_SizeSet_period⟩ := Hd.fnOf c 9 (d := df9) rfl
  obtain ⟨fd_SizeSetu__containsu_, h_F_SizeSetu__containsu_⟩ := Hd.fnOf c 10 (d := df10) rfl
  obtain ⟨fd_common_parts, h_F_common_parts⟩ := Hd.fnOf c 11 (d := df11) rfl
  obtain ⟨fd_set_of, h_F_set_of⟩ := Hd.fnOf c 12 (d := df12) rfl
  obtain ⟨fd_SizeSetu__andu_, h_F_SizeSetu__andu_⟩ := Hd.fnOf c 13 (d := df13) rfl
  obtain ⟨fd_SizeSetu__oru_, h_F_SizeSetu__oru_⟩ := Hd.fnOf c 14 (d := df14) rfl
  obtain ⟨fd_SizeSetu__leu_, h_F_SizeSetu__leu_⟩ := Hd.fnOf c 15 (d := df15) rfl
  obtain ⟨fd_SizeSetu__boolu_, h_F_SizeSetu__boolu_⟩ := Hd.fnOf c 16 (d := df16) rfl
  obtain ⟨fd_SizeSet_least, h_F_SizeSet_least⟩ := Hd.fnOf c 17 (d := df17) rfl
  obtain ⟨fd_SizeSet_none, h_F_SizeSet_none⟩ := Hd.fnOf c 18 (d := df18) rfl
  obtain ⟨fd_SizeSet_full_set, h_F_SizeSet_full_set⟩ := Hd.fnOf c 19 (d := df19) rfl
  obtain ⟨fd_l_source, h_F_l_source⟩ := Hd.fnOf c 20 (d := df20) rfl
  obtain ⟨fd_l_draw, h_F_l_draw⟩ := Hd.fnOf c 21 (d := df21) rfl
  obtain ⟨fd_l_pick, h_F_l_pick⟩ := Hd.fnOf c 22 (d := df22) rfl
  obtain ⟨fd_l_told, h_F_l_told⟩ := Hd.fnOf c 23 (d := df23) rfl
  obtain ⟨fd_l_made, h_F_l_made⟩ := Hd.fnOf c 24 (d := df24) rfl
  obtain ⟨fd_l_joined, h_F_l_joined⟩ := Hd.fnOf c 25 (d := df25) rfl
  obtain ⟨fd_l_wrong, h_F_l_wrong⟩ := Hd.fnOf c 26 (d := df26) rfl
  obtain ⟨fd_law, h_F_law⟩ := Hd.fnOf c 27 (d := df27) rfl
  have hfl : fa = He.ga K "law" := by
    have e := hfa.symm.trans (PySem.W.mg_of X G h_m_law)
    cases e
    rfl
  subst hfl
  exact all_mk X G hfa h_n_ValueError h_n_abs h_n_all h_n_bool h_n_int h_n_isinstance h_n_len h_n_list h_n_max h_n_min h_n_range h_n_sorted h_m_GREATEST_START h_m_GREATEST_PERIOD h_m_lcm h_m_NoSet h_m_TooLong h_m_SizeSet h_n_SizeSet_period h_n_SizeSet_start h_n_SizeSet_early h_n_SizeSet_rests h_n_SizeSet_early_marks h_n_SizeSet_rest_marks h_m_RingError h_m_NoForm h_m_NoCounter h_m_NoScheme h_m_NoSize h_m_NoRing h_m_Outside h_m_NoRun h_m_is_whole h_m_is_whole_from h_m_is_ascending h_m_check_parts h_m_least_start h_m_marks_of h_m_shortest h_m_common_parts h_m_set_of h_m_l_source h_m_l_draw h_m_l_pick h_m_l_told h_m_l_made h_m_l_joined h_m_l_wrong h_m_law h_in_SizeSet h_a_SizeSet_least (Hd.stB_ok h_a1_SizeSet_none) (Hd.stB_ok h_a1_SizeSet_full_set) h_a1_SizeSet_start h_a1_SizeSet_period h_a_SizeSetu__containsu_ h_bn_SizeSetu__andu_ h_bn_SizeSetu__oru_ h_a_SizeSetu__leu_ h_a_SizeSetu__boolu_ h_a2_SizeSet_none h_a2_SizeSet_full_set h_a2_SizeSet_start h_a2_SizeSet_period h_x_NoSet h_kp_NoSet h_sb_NoSet h_tc_NoSet h_x_TooLong h_kp_TooLong h_sb_TooLong h_tc_TooLong h_pg_SizeSet h_hd_SizeSet h_po_SizeSet h_sa_SizeSet h_mk_SizeSet h_ii_SizeSet h_kp_SizeSet h_ha_SizeSet h_mo_SizeSet h_hn_SizeSet h_htk_SizeSet h_kt_NoneType_SizeSet h_kt_int_SizeSet h_kt_bool_SizeSet h_kt_str_SizeSet h_kt_tuple_SizeSet h_kt_list_SizeSet h_kt_dict_SizeSet h_kt_SizeSet_SizeSet h_F_is_whole h_F_is_whole_from h_F_is_ascending h_F_check_parts h_F_least_start h_F_marks_of h_F_shortest h_F_SizeSetu__initu_ h_F_SizeSet_start h_F_SizeSet_period h_F_SizeSetu__containsu_ h_F_common_parts h_F_set_of h_F_SizeSetu__andu_ h_F_SizeSetu__oru_ h_F_SizeSetu__leu_ h_F_SizeSetu__boolu_ h_i_SizeSet_least h_F_SizeSet_least h_rd_SizeSet h_ga_SizeSet h_F_SizeSet_none h_F_SizeSet_full_set h_F_l_source h_F_l_draw h_F_l_pick h_F_l_told h_F_l_made h_F_l_joined h_F_l_wrong h_F_law h_pg_SizeSet_start h_pt_SizeSet_start h_pg_SizeSet_period h_pt_SizeSet_period h_i_SizeSetu__containsu_ h_sf_SizeSet h_i_SizeSetu__andu_ h_rc_SizeSetu__andu_ (Hd.noR_ok h_rp_SizeSetu__andu_) h_vfNoneType_SizeSetu__andu_ h_vrNoneType_SizeSetu__andu_ h_vsNoneType_SizeSet h_vfint_SizeSetu__andu_ h_vrint_SizeSetu__andu_ h_vsint_SizeSet h_vfbool_SizeSetu__andu_ h_vrbool_SizeSetu__andu_ h_vsbool_SizeSet h_vfstr_SizeSetu__andu_ h_vrstr_SizeSetu__andu_ h_vsstr_SizeSet h_vftuple_SizeSetu__andu_ h_vrtuple_SizeSetu__andu_ h_vstuple_SizeSet h_vflist_SizeSetu__andu_ h_vrlist_SizeSetu__andu_ h_vslist_SizeSet h_vfdict_SizeSetu__andu_ h_vrdict_SizeSetu__andu_ h_vsdict_SizeSet h_i_SizeSetu__oru_ h_rc_SizeSetu__oru_ (Hd.noR_ok h_rp_SizeSetu__oru_) h_vfNoneType_SizeSetu__oru_ h_vrNoneType_SizeSetu__oru_ h_vfint_SizeSetu__oru_ h_vrint_SizeSetu__oru_ h_vfbool_SizeSetu__oru_ h_vrbool_SizeSetu__oru_ h_vfstr_SizeSetu__oru_ h_vrstr_SizeSetu__oru_ h_vftuple_SizeSetu__oru_ h_vrtuple_SizeSetu__oru_ h_vflist_SizeSetu__oru_ h_vrlist_SizeSetu__oru_ h_vfdict_SizeSetu__oru_ h_vrdict_SizeSetu__oru_ h_i_SizeSetu__leu_ h_i_SizeSetu__boolu_ h_nf_SizeSet_SizeSet h_nf_NoneType_SizeSet h_nf_int_SizeSet h_nf_bool_SizeSet h_nf_str_SizeSet h_nf_tuple_SizeSet h_nf_list_SizeSet h_nf_dict_SizeSet h_kt_NoSet_in_NoForm h_kt_NoSet_in_NoCounter h_kt_NoSet_in_NoScheme h_kt_NoSet_in_NoSize h_kt_NoSet_in_NoRing h_kt_NoSet_in_Outside h_kt_NoSet_in_NoRun h_kt_NoSet_in_NoSet h_kt_NoSet_in_TooLong h_kt_NoSet_in_VE h_sb_RingError h_hd_RingError h_tc_RingError h_sr_NoSet h_ecg_NoSet h_eck_NoSet h_hd_NoSet h_eca_NoSet h_ecn h_ect h_ecm_NoSet h_kt_TooLong_in_NoForm h_kt_TooLong_in_NoCounter h_kt_TooLong_in_NoScheme h_kt_TooLong_in_NoSize h_kt_TooLong_in_NoRing h_kt_TooLong_in_Outside h_kt_TooLong_in_NoRun h_kt_TooLong_in_NoSet h_kt_TooLong_in_TooLong h_kt_TooLong_in_VE h_sr_TooLong h_ecg_TooLong h_eck_TooLong h_hd_TooLong h_eca_TooLong h_ecm_TooLong
end Pk33
open PySem PySem.W PySem.Calls PyProof.Rows
set_option maxRecDepth 100000 in
set_option maxHeartbeats 0 in
theorem PySem.Challenge.cw_ringindexes_k33_sets_refused_holds : PySem.Challenge.rw_ringindexes_k33_sets_refused.Holds := by
  w_on; o_law
  refine HandSHeadRun.head_imp (r := Pk33.R) (q := (PySem.W.view Pk33.R.prog [0, 35])) (H := Pk33.hk) (ob := Pk33.ob) (M := 200000) (loose := Pk33.loose) (d := (HandSHeadRun.topDef Pk33.R.prog 35)) (kwd := []) Pk33.ob_is Pk33.run (by kernel_rfl) (by kernel_rfl) (by kernel_rfl) (by rfl) (by first | assumption | decide +kernel) (by decide +kernel) ⟨rfl, rfl, rfl, rfl, rfl, by decide +kernel⟩ ?hw ?hc
  case hw => w_witness2
  case hc =>
    refine L2.walk_ofE (l := PySem.Challenge.rw_ringindexes_k33_sets_refused) (n := 63) (k := 10) (x := "_law_script") (CX := L2.CX0) rfl (by decide) (by kernel_rfl) ⟨rfl, by decide, by decide⟩ ?F (fun _ _ _ _ z => z)
    intro w mg fa h Y G hmg0
    obtain ⟨K, KX, c⟩ := Y
    have hmg : mg ("law" : PySem.Str) = some (.ref fa) := by
      have e : (HandSHeadRun.topDef Pk33.R.prog 35).name = ("law" : PySem.Str) := by kernel_rfl
      rw [← e]
      exact hmg0
    obtain ⟨fd, hb, hF⟩ := Pk33.facts (P := PySem.Challenge.rw_ringindexes_k33_sets_refused) (w := w) KX G hmg c
    exact ⟨K, fd, Pk33.sp_law K, KX, hb, fun H a ns hl _ hS => ⟨a, ns, rfl, hS, hl, fun _ => rfl⟩, hF⟩
