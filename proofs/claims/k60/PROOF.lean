import PyProof.Rows.All
import Wide.All
import OpenK.AllK
import Wide.FinOn
import PyProof.EqAt
import PyProof.EqKinds
import PyProof.TupleCall
import PyProof.InstNe
import KE.RegKIsAll
import HandS.ForMost
import HandS.Wide
import HandS.IsInst
import HandS.OwnEq
import HandS.Star
import HandS.Property
import HandS.Defaults
import HandS.WordsExc
import HandS.ExcOwn
import HandS.TupLe
import HandS.SortKw
import KE.KMinBuiltin
import HandS.TryOnly
import HandS.ExcIs
import HandS.CallLocal
import HandS.Walk
import HandS.StrMore
import HandS.FStr
import HandS.NoneIn
import HandS.SetFor
import PyProof.StrLaws
import HandS.Small
import HandS.StrSplit
import HandS.MakeKwOnly
import HandS.More
import HandS.WideBits
import KE.KSortKey
import HandS.HotCalls
import HandS.TryMany
import KE.KMathGC
import HandS.Conv
import HandS.Head0
import HandS.Head1
import HandS.Head2
import HandS.Head3
import HandS.HeadEnd
import HandS.HeadHook1
import HandS.HeadHook2
import HandS.HeadHook3
import PySem.Challenge.RW_ringindexes_k60_sets_of_lags
set_option Elab.async false
set_option linter.all false
set_option maxRecDepth 100000
set_option maxHeartbeats 40000000
/-! ## steps of readings: each lemma opens one construct -/
namespace Rd
open PySem PySem.Spec PyProof.Rows L2

section
variable {σ : L2.St} {H : Hp} {Q : VK} {D : Ends} {K : PySem.W.Frag}
theorem seq {t u : TS} (h : t { D with nx := u D } σ H) : tSeq t u D σ H := h
theorem next (h : D.nx σ H) : tNext D σ H := h
theorem drop {te : TE} (h : te σ H fun _ H1 => D.nx σ H1) : tDrop te D σ H := h
theorem ret {te : TE} (h : te σ H D.rt) : tRet te D σ H := h
theorem retN (h : D.rt .non H) : tRetN D σ H := h
theorem brk (h : D.bk σ H) : tBreak D σ H := h
theorem cont (h : D.ct σ H) : tCont D σ H := h
theorem ifS {c : TT} {t u : TS} (h : c σ H fun b H1 => if b = true then t D σ H1 else u D σ H1) : tIfS c t u D σ H := h
theorem asg {te : TE} {g : TG} (h : te σ H fun x H1 => g x σ H1 D.nx) : tAsg te g D σ H := h
theorem name {i : Nat} {v : V} {q : L2.St → Hp → Prop} (h : q (σ.set i (some v)) H) : gName i v σ H q := h
theorem par {i j : Nat} {ta : TA} (h : ta σ H fun vs H1 => ∃ v w, vs = [v, w] ∧ D.nx ((σ.set i (some v)).set j (some w)) H1) : tPar i j ta D σ H := h
theorem par2 {i j : Nat} {v w : V} (h : D.nx ((σ.set i (some v)).set j (some w)) H) : ∃ v' w', [v, w] = [v', w'] ∧ D.nx ((σ.set i (some v')).set j (some w')) H := ⟨v, w, rfl, h⟩
theorem var {i : Nat} {v : V} (e : σ[i]? = some (some v)) (h : Q v H) : tVar i σ H Q := ⟨v, e, h⟩
theorem c {v : V} (h : Q v H) : tC v σ H Q := h
theorem op {r : R2} {ta tb : TE} (h : ta σ H fun x H1 => tb σ H1 fun y H2 => r x y H2 Q) : tOp r ta tb σ H Q := h
theorem un {r : V → Hp → VK → Prop} {ta : TE} (h : ta σ H fun x H1 => r x H1 Q) : tUn r ta σ H Q := h
theorem i0 {g : Int → Int → V} {i j : Int} (h : Q (g i j) H) : rI0 g (.int i) (.int j) H Q := ⟨i, j, rfl, rfl, h⟩
theorem iC {C : Int → Int → Prop} {g : Int → Int → V} {i j : Int} (e : C i j) (h : Q (g i j) H) : rI C g (.int i) (.int j) H Q := ⟨i, j, rfl, rfl, e, h⟩
theorem iU {g : Int → V} {i : Int} (h : Q (g i) H) : rU g (.int i) H Q := ⟨i, rfl, h⟩
theorem eqS {x y : V} (e : scal x y = true) (h : Q (.bl (decide (x = y))) H) : rEq x y H Q := ⟨e, h⟩
theorem neS {x y : V} (e : scal x y = true) (h : Q (.bl (!decide (x = y))) H) : rNe x y H Q := ⟨e, h⟩
theorem addS {i j : Str} (e : i.length + j.length ≤ sizeLine) (h : Q (.str (i ++ j)) H) : ∃ a b, V.str i = .str a ∧ V.str j = .str b ∧ a.length + b.length ≤ sizeLine ∧ Q (.str (a ++ b)) H := ⟨i, j, rfl, rfl, e, h⟩
theorem isN {x : V} (h : Q (.bl (decide (x = .non))) H) : V.non = .non ∧ Q (.bl (decide (x = .non))) H := ⟨rfl, h⟩
theorem notN {x : V} (h : Q (.bl (!decide (x = .non))) H) : V.non = .non ∧ Q (.bl (!decide (x = .non))) H := ⟨rfl, h⟩
theorem chain {r r' : R2} {ta tb tc : TE} (h : ta σ H fun x H1 => tb σ H1 fun y H2 => r x y H2 fun z H3 => ∃ k, z = .bl k ∧ (if k = true then tc σ H3 fun w' H4 => r' y w' H4 Q else Q (.bl false) H3)) : tChain r r' ta tb tc σ H Q := h
theorem bl {k : Bool} {A : Bool → Prop} (h : A k) : ∃ c, V.bl k = .bl c ∧ A c := ⟨k, rfl, h⟩
theorem test {t : TE} {q : Bool → Hp → Prop} (h : t σ H fun x H' => ∃ k, x = .bl k ∧ q k H') : tTest t σ H q := h
theorem tb {t : TE} {q : Bool → Hp → Prop} (h : t σ H fun x H' => ∃ k, x = .bl k ∧ q k H') : tB t σ H q := h
theorem and {t u : TT} {q : Bool → Hp → Prop} (h : t σ H fun c H1 => if c = true then u σ H1 q else q false H1) : tAnd t u σ H q := h
theorem or {t u : TT} {q : Bool → Hp → Prop} (h : t σ H fun c H1 => if c = true then q true H1 else u σ H1 q) : tOr t u σ H q := h
theorem not {t : TT} {q : Bool → Hp → Prop} (h : t σ H fun c H1 => q (!c) H1) : tNot t σ H q := h
theorem andV {ta tb : TE} (h : ta σ H fun x H1 => ∃ c, x = .bl c ∧ if c = true then tb σ H1 Q else Q (.bl false) H1) : tAndV ta tb σ H Q := h
theorem orV {ta tb : TE} (h : ta σ H fun x H1 => ∃ c, x = .bl c ∧ if c = true then Q (.bl true) H1 else tb σ H1 Q) : tOrV ta tb σ H Q := h
theorem notV {ta : TE} (h : ta σ H fun x H1 => ∃ c, x = .bl c ∧ Q (.bl (!c)) H1) : tNotV ta σ H Q := h
theorem ifE {t : TT} {ta tb : TE} (h : t σ H fun c H1 => if c = true then ta σ H1 Q else tb σ H1 Q) : tIf t ta tb σ H Q := h
theorem nil {q : List V → Hp → Prop} (h : q [] H) : tNil σ H q := h
theorem cons {ta : TE} {tr : TA} {q : List V → Hp → Prop} (h : ta σ H fun x H1 => tr σ H1 fun xs H2 => q (x :: xs) H2) : tCons ta tr σ H q := h
theorem cB {r : List V → Hp → VK → Prop} {t : TA} (h : t σ H fun vs H1 => r vs H1 Q) : tCB r t σ H Q := h
theorem tup {t : TA} (h : t σ H fun xs H1 => xs.length ≤ sizeLine ∧ ∀ p, H1 p = none → Q (.ref p) (upd H1 p (.tup xs))) : tTup t σ H Q := h
theorem lst {t : TA} (h : t σ H fun xs H1 => xs.length ≤ sizeLine ∧ ∀ p, H1 p = none → Q (.ref p) (upd H1 p (.lst xs))) : tLst t σ H Q := h
theorem laid {xs : List V} {A : Addr → Prop} (e : xs.length ≤ 1000) (h : ∀ p, H p = none → A p) : xs.length ≤ sizeLine ∧ ∀ p, H p = none → A p := ⟨Nat.le_of_lt (small1000 e), h⟩
theorem call {sp : Sp} {dvs : List V} {E : XK} {t : TA} (h : t σ H fun vs H1 => sp (vs ++ dvs) H1 Q E) : tCall sp dvs E t σ H Q := h
theorem meth {C : Addr} {m : Str} {sp : Sp} {dvs : List V} {E : XK} {ta : TE} {t : TA} (h : ta σ H fun x H1 => ∃ a dx fs, x = .ref a ∧ H1 a = some (.ins C dx fs) ∧ fs.lookup m = none ∧ t σ H1 fun vs H2 => sp (x :: (vs ++ dvs)) H2 Q E) : tMeth C m sp dvs E ta t σ H Q := h
theorem meth2 {C a dx : Addr} {fs : List (Str × V)} {m : Str} {A : Prop} (e : H a = some (.ins C dx fs)) (l : fs.lookup m = none) (h : A) : ∃ a' dx fs, V.ref a = .ref a' ∧ H a' = some (.ins C dx fs) ∧ fs.lookup m = none ∧ A := ⟨a, dx, fs, rfl, e, l, h⟩
theorem make {C : Addr} {sp : Sp} {dvs : List V} {E : XK} {t : TA} (h : t σ H fun vs H1 => ∀ x dx, H1 x = none → H1 dx = none → dx ≠ x → sp (.ref x :: (vs ++ dvs)) (upd (upd H1 dx (.own x)) x (.ins C dx [])) (fun v H2 => v = .non ∧ Q (.ref x) H2) E) : tMake C sp dvs E t σ H Q := h
theorem fld {ta : TE} {f : Str} (h : ta σ H fun x H1 => ∃ a C dx fs v, x = .ref a ∧ H1 a = some (.ins C dx fs) ∧ Cls K C ∧ NoAttr K C f ∧ fs.lookup f = some v ∧ Q v H1) : tFld K ta f σ H Q := h
theorem fld2 {f : Str} {a C dx : Addr} {fs : List (Str × V)} {v : V} (e : H a = some (.ins C dx fs)) (k : Cls K C) (n : NoAttr K C f) (l : fs.lookup f = some v) (h : Q v H) :
    ∃ a' C' dx fs v, V.ref a = .ref a' ∧ H a' = some (.ins C' dx fs) ∧ Cls K C' ∧ NoAttr K C' f ∧ fs.lookup f = some v ∧ Q v H := ⟨a, C, dx, fs, v, rfl, e, k, n, l, h⟩
theorem sfld {ta tv : TE} {f : Str} (h : tv σ H fun y H1 => ta σ H1 fun x H2 => ∃ a C dx fs, x = .ref a ∧ H2 a = some (.ins C dx fs) ∧ Cls K C ∧ NoAttr K C f ∧ fs.length < 1000 ∧ D.nx σ (upd H2 a (.ins C dx (putF f y fs)))) : sFld K ta tv f D σ H := h
theorem gnil {q : L2.St → Hp → Prop} (h : q σ H) : gNil [] σ H q := ⟨rfl, h⟩
theorem gcons {t : TG} {u : TGs} {v : V} {r : List V} {q : L2.St → Hp → Prop} (h : t v σ H fun σ' H' => u r σ' H' q) : gCons t u (v :: r) σ H q := ⟨v, r, rfl, h⟩
theorem gtup {n : Nat} {t : TGs} {a : Addr} {xs : List V} {q : L2.St → Hp → Prop} (e : SqT K H a xs) (l : xs.length = n) (h : t xs σ H q) : gTup K n t (.ref a) σ H q := ⟨a, xs, rfl, e, l, h⟩
theorem fr {wi : TI} {g : TG} {tb : TS} (h : wi σ H fun J H1 => ∃ W : Nat → Nat → L2.St → Hp → Prop, (∃ m, W 0 m σ H1) ∧ ∀ i m σ H, W i m σ H →
    (J.stop i H ∧ D.nx σ H) ∨ (J.go i H ∧ ∃ N : L2.St → Hp → Prop, (∀ σ' H', N σ' H' → ∃ m', m' < m ∧ W (i + 1) m' σ' H') ∧ ∀ x H', J.yld i H x H' → g x σ H' fun σ2 H2 => tb { D with nx := N, ct := N, bk := D.nx } σ2 H2)) : tFor wi g tb D σ H := h
theorem rng1 {ta : TA} {R : It → Hp → Prop} (h : ta σ H fun vs H1 => ∃ j : Int, vs = [.int j] ∧ -(2 ^ 62) ≤ j ∧ j < 2 ^ 62 ∧ R (Itr 0 j.toNat) H1) : iRng1 ta σ H R := h
theorem prop {C : Addr} {sp : Sp} {dvs : List V} {E : XK} {ta : TE} (h : ta σ H fun x H1 => ∃ a dx fs, x = .ref a ∧ H1 a = some (.ins C dx fs) ∧ sp (.ref a :: dvs) H1 Q E) : tProp C sp dvs E ta σ H Q := h
theorem aug {i : Nat} {te : TE} {ti : TIp} {x : V} (e : σ[i]? = some (some x)) (h : te σ H fun y H1 => ti x y H1 fun z H2 => D.nx (σ.set i (some z)) H2) : tAug i te ti D σ H := ⟨x, e, h⟩
theorem ipI {f : Int → Int → Int} {i j : Int} (h : Q (.int (f i j)) H) : L2.ipI f (.int i) (.int j) H Q := ⟨i, j, rfl, rfl, h⟩
theorem ixL {a : Addr} {xs : List V} {i : Int} {v : V} (e : SqL K H a xs) (l : atI xs i = some v) (h : Q v H) : rIxL K (.ref a) (.int i) H Q := ⟨a, xs, i, v, rfl, rfl, e, l, h⟩
theorem ixT {a : Addr} {xs : List V} {i : Int} {v : V} (e : SqT K H a xs) (l : atI xs i = some v) (h : Q v H) : rIxT K (.ref a) (.int i) H Q := ⟨a, xs, i, v, rfl, rfl, e, l, h⟩
theorem setL {a : Addr} {xs : List V} {k : Int} {j : Nat} {v : V} {q : Hp → Prop} (e : H a = some (.lst xs)) (l : ixN xs.length k = some j) (h : q (upd H a (.lst (xs.set j v)))) : rSetL (.ref a) (.int k) v H q := ⟨a, xs, k, j, rfl, rfl, e, l, h⟩
theorem sub {to ti : TE} {t : TSet} {v : V} {q : L2.St → Hp → Prop} (h : to σ H fun o H1 => ti σ H1 fun i H2 => t o i v H2 fun H3 => q σ H3) : gSub to ti t v σ H q := h
theorem lenQ {a : Addr} {xs : List V} (e : SqL K H a xs ∨ SqT K H a xs) (h : Q (.int xs.length) H) : ∃ p ys, [V.ref a] = [.ref p] ∧ (SqL K H p ys ∨ SqT K H p ys) ∧ Q (.int ys.length) H := ⟨a, xs, rfl, e, h⟩
theorem absI {i : Int} (h : Q (.int (if i < 0 then -i else i)) H) : ∃ j, [V.int i] = [.int j] ∧ Q (.int (if j < 0 then -j else j)) H := ⟨i, rfl, h⟩
theorem intI {i : Int} (h : Q (.int i) H) : (∃ j, [V.int i] = [.int j] ∧ Q (.int j) H) ∨ ∃ k, [V.int i] = [.bl k] ∧ Q (.int (if k then 1 else 0)) H := .inl ⟨i, rfl, h⟩
theorem ite {c A B : Prop} [Decidable c] (h1 : c → A) (h2 : ¬ c → B) : if c then A else B := by
  by_cases h : c
  · rw [if_pos h]; exact h1 h
  · rw [if_neg h]; exact h2 h
theorem iteT {b : Bool} {A B : Prop} (e : b = true) (h : A) : if b = true then A else B := by rw [if_pos e]; exact h
theorem iteF {b : Bool} {A B : Prop} (e : b = false) (h : B) : if b = true then A else B := by rw [e]; exact h
theorem andB {c d : Bool} {t : TE} (h1 : ∀ Q' : VK, Q' (.bl d) H → t σ H Q') (h : Q (.bl (c && d)) H) : if c = true then t σ H Q else Q (.bl false) H := by
  cases c with
  | true => exact h1 Q h
  | false => exact h
theorem orB {c d : Bool} {t : TE} (h1 : ∀ Q' : VK, Q' (.bl d) H → t σ H Q') (h : Q (.bl (c || d)) H) : if c = true then Q (.bl true) H else t σ H Q := by
  cases c with
  | true => exact h
  | false => exact h1 Q h
end
theorem lput {f : Str} {v : V} {fs : List (Str × V)} {n : Nat} (h : fs.length + 1 < n) : (putF f v fs).length < n := Nat.lt_of_le_of_lt (by have := length_putF f v fs; omega) h
theorem lputs {f : Str} {v : V} {fs : List (Str × V)} {n k : Nat} (h : fs.length + (k + 1) < n) : (putF f v fs).length + k < n := Nat.lt_of_le_of_lt (by have := length_putF f v fs; omega) h
theorem ty_tup {K : PySem.W.Frag} {H : Hp} {a : Addr} {xs : List V} (e : H a = some (.tup xs)) : TyX K H (.ref a) (.type "tuple") := .base (.tup e)
theorem ty_lst {K : PySem.W.Frag} {H : Hp} {a : Addr} {xs : List V} (e : H a = some (.lst xs)) : TyX K H (.ref a) (.type "list") := .base (.lst e)
section
variable {K : PySem.W.Frag}
theorem kit_int_int : PySem.W.kitOne K (.type "int") (.type "int") = some true := kit_ty (by decide +kernel)
theorem kit_bool_int : PySem.W.kitOne K (.type "bool") (.type "int") = some true := kit_ty (by decide +kernel)
theorem kit_str_int : PySem.W.kitOne K (.type "str") (.type "int") = some false := kit_ty (by decide +kernel)
theorem kit_none_int : PySem.W.kitOne K (.type "NoneType") (.type "int") = some false := kit_ty (by decide +kernel)
theorem kit_tuple_int : PySem.W.kitOne K (.type "tuple") (.type "int") = some false := kit_ty (by decide +kernel)
theorem kit_list_int : PySem.W.kitOne K (.type "list") (.type "int") = some false := kit_ty (by decide +kernel)
theorem kit_dict_int : PySem.W.kitOne K (.type "dict") (.type "int") = some false := kit_ty (by decide +kernel)
theorem kit_int_bool : PySem.W.kitOne K (.type "int") (.type "bool") = some false := kit_ty (by decide +kernel)
theorem kit_bool_bool : PySem.W.kitOne K (.type "bool") (.type "bool") = some true := kit_ty (by decide +kernel)
theorem kit_str_bool : PySem.W.kitOne K (.type "str") (.type "bool") = some false := kit_ty (by decide +kernel)
theorem kit_str_str : PySem.W.kitOne K (.type "str") (.type "str") = some true := kit_ty (by decide +kernel)
theorem kit_int_str : PySem.W.kitOne K (.type "int") (.type "str") = some false := kit_ty (by decide +kernel)
end
end Rd


/-! ## the operators of own classes, as rules of the layer -/
namespace Own
open PySem PySem.Spec PyProof.Rows L2
section
variable {X : Cx} {pins : List (Addr × Obj)} {σ : L2.St} {H : Hp} {s : Shared}
/-- a value of the layer is never the sign of a declined operator -/
theorem not_declined {v : V} {u : Value} (r : RelV v u) : u ≠ .notImplemented := by
  intro e
  subst e
  cases v with
  | non => cases (show Value.notImplemented = Value.none from r)
  | bl b => cases (show Value.notImplemented = Value.bool b from r)
  | int i => obtain ⟨t, q⟩ := (show ∃ t, Value.notImplemented = Value.int i t from r); cases q
  | str i => obtain ⟨t, q⟩ := (show ∃ t, Value.notImplemented = Value.str i t from r); cases q
  | byt i => obtain ⟨t, q⟩ := (show ∃ t, Value.notImplemented = Value.bytes i t from r); cases q
  | flt i => obtain ⟨t, q⟩ := (show ∃ t, Value.notImplemented = Value.float i t from r); cases q
  | ref a => cases (show Value.notImplemented = Value.ref a from r)
  | ty n => cases (show Value.notImplemented = Value.type n from r)
theorem back {M : Model} {A : Around} {E : Value → Shared → Prop} {m : Sem Value} {Q : VK} (h : wpAny M A m (EP X pins σ Q) E s) : wpAny M A m (PySem.W.CmpBack (EP X pins σ Q)) E s :=
  wpAny_mono h (fun u s' q => by
    have n : u ≠ .notImplemented := by
      obtain ⟨z, H', I, r, _⟩ := q
      exact not_declined r
    cases u <;> first | exact q | exact absurd rfl n) fun _ _ e => e
/-- an instance as the library's rules ask for it -/
theorem inst {a C dx : Addr} {fs : List (Str × V)} (I : Inv X pins σ H s) (h : H a = some (.ins C dx fs)) : ∃ od, PySem.W.InstAt s.heap a (PySem.W.instObj C dx) C od := by
  obtain ⟨mA, J, _⟩ := ins_get I.hok h
  obtain ⟨od, J, _⟩ := J.look
  exact ⟨_, J⟩
/-- the type of any value, told without a step that matters -/
theorem typed {M : Model} {x : V} {u : Value} {t : Value} (I : Inv X pins σ H s) (r : RelV x u) (ty : TyX X.K H x t) : PySem.W.Looks M s.heap (typeOf u) t := by
  obtain ⟨P, Z, p, _⟩ := kit_of I r ty
  exact Z.ty M s.heap I.kIn p
end

/-- an own method behind an operator -/
structure Sp1 (K : PySem.W.Frag) (C : Addr) (m : Str) (f : Addr) : Prop where
  at_ : PySem.W.findIn K (.ref C) m = some (some (.ref f))
  fn : PySem.W.isFn K (.ref f) = true
/-- a two-place operator of an own class -/
structure Bin (K : PySem.W.Frag) (C f : Addr) (op : Operator) : Prop where
  first : PySem.W.selfFirst K C = true
  at_ : PySem.W.findIn K (.ref C) (PySem.dunder op.info.2) = some (some (.ref f))
  fn : PySem.W.isFn K (.ref f) = true
/-- .. beside a value of the built-in type T -/
structure BinT (K : PySem.W.Frag) (C f : Addr) (op : Operator) (T : String) : Prop where
  b : Bin K C f op
  r : ∃ rc, PySem.W.findIn K (.ref C) (dunderR op.info.2) = some rc ∧ (rc = none ∨ ∃ g : Addr, rc = some (.ref g))
  l1 : ∃ fo, PySem.W.findIn K (.type T) (PySem.dunder op.info.2) = some fo
  l2 : ∃ ro, PySem.W.findIn K (.type T) (dunderR op.info.2) = some ro
  sub : PySem.W.subIn K (.type T) (.ref C) = some false

def rSame (C : Addr) (sp : Sp) (E : XK) : R2 := fun x y H Q => ∃ a b dx dy fs gs, x = .ref a ∧ y = .ref b ∧ H a = some (.ins C dx fs) ∧ H b = some (.ins C dy gs) ∧ sp [.ref a, .ref b] H Q E
def rLeft (C : Addr) (T : String) (sp : Sp) (E : XK) : R2 := fun x y H Q => ∃ a dx fs, x = .ref a ∧ H a = some (.ins C dx fs) ∧ (∀ u, RelV y u → typeOf u = pure (.type T)) ∧ sp [.ref a, y] H Q E
def rCmp (K : PySem.W.Frag) (C : Addr) (sp : Sp) (E : XK) : R2 := fun x y H Q => ∃ a dx fs t, x = .ref a ∧ H a = some (.ins C dx fs) ∧ TyX K H y t ∧ PySem.W.notFirst K C t = true ∧ sp [.ref a, y] H Q E
def rOne (C : Addr) (sp : Sp) (E : XK) : V → Hp → VK → Prop := fun x H Q => ∃ a dx fs, x = .ref a ∧ H a = some (.ins C dx fs) ∧ sp [.ref a] H Q E

section
variable {X : Cx} {CX : CXT} {k : Nat} {f C : Addr} {fd : FuncData} {ps : List Str} {sp : Sp} {E : XK} {op : Operator} {cop : CmpOp} {T : String}
theorem run2 {pins : List (Addr × Obj)} {σ : L2.St} {H : Hp} {s : Shared} {Q : VK} {x y : V} {u v : Value} (F : FnOk X.prog X.w X.K X.mg X.base CX k f fd ps sp) (hr : Room k X.A) (hb : Binds X.K fd ps []) (hx : Passes CX X E)
    (I : Inv X pins σ H s) (rx : RelV x u) (ry : RelV y v) (h : sp [x, y] H Q E) : wpAny (model X.prog X.w) X.A (call (.ref f) [u, v]) (EP X pins σ Q) X.xe s :=
  run_fn (us := [u, v]) (vs := [x, y]) F hr hb .nil hx I (.cons rx (.cons ry .nil)) h
theorem opS (F : FnOk X.prog X.w X.K X.mg X.base CX k f fd ps sp) (hr : Room k X.A) (B : Bin X.K C f op) (hb : Binds X.K fd ps []) (hx : Passes CX X E) : OpR X (binaryOp op) (rSame C sp E) := by
  rintro pins s σ H x y u v Q I rx ry ⟨a, b, dx, dy, fs, gs, rfl, rfl, ha, hb', q⟩
  cases rx
  cases ry
  obtain ⟨od, J⟩ := inst I ha
  obtain ⟨od', J'⟩ := inst I hb'
  obtain ⟨m, hF⟩ := I.fr
  exact PySem.W.binop_K hF I.ok.mod.kin J J'.type B.first B.at_ B.fn (back (run2 (x := .ref a) (y := .ref b) F hr hb hx I rfl rfl q))
theorem opT (F : FnOk X.prog X.w X.K X.mg X.base CX k f fd ps sp) (hr : Room k X.A) (B : BinT X.K C f op T) (hb : Binds X.K fd ps []) (hx : Passes CX X E) : OpR X (binaryOp op) (rLeft C T sp E) := by
  rintro pins s σ H x y u v Q I rx ry ⟨a, dx, fs, rfl, ha, ty, q⟩
  cases rx
  obtain ⟨od, J⟩ := inst I ha
  obtain ⟨m, hF⟩ := I.fr
  obtain ⟨⟨b1, b2, b3⟩, ⟨rc, r1, r2⟩, ⟨fo, l1⟩, ⟨ro, l2⟩, sb⟩ := B
  exact PySem.W.ksp_binT hF I.ok.mod.kin J (ty _ ry) b1 b2 b3 r1 r2 l1 l2 sb (back (run2 (x := .ref a) F hr hb hx I rfl ry q))
theorem iopT (F : FnOk X.prog X.w X.K X.mg X.base CX k f fd ps sp) (hr : Room k X.A) (h1 : PySem.W.selfFirst X.K C = true) (h2 : Sp1 X.K C (dunderI op.info.2) f) (hb : Binds X.K fd ps []) (hx : Passes CX X E) :
    OpR X (inplaceOp op) (fun x y H Q => ∃ a dx fs, x = .ref a ∧ H a = some (.ins C dx fs) ∧ sp [.ref a, y] H Q E) := by
  rintro pins s σ H x y u v Q I rx ry ⟨a, dx, fs, rfl, ha, q⟩
  cases rx
  obtain ⟨od, J⟩ := inst I ha
  obtain ⟨m, hF⟩ := I.fr
  exact PySem.W.ksp_inplace hF I.ok.mod.kin J h1 h2.at_ h2.fn (back (run2 (x := .ref a) F hr hb hx I rfl ry q))
theorem neg (F : FnOk X.prog X.w X.K X.mg X.base CX k f fd ps sp) (hr : Room k X.A) (B : Sp1 X.K C "__neg__" f) (hb : Binds X.K fd ps []) (hx : Passes CX X E) : UnR X (unaryOp .USub) (rOne C sp E) := by
  rintro pins s σ H x u Q I rx ⟨a, dx, fs, rfl, ha, q⟩
  cases rx
  obtain ⟨od, J⟩ := inst I ha
  obtain ⟨m, hF⟩ := I.fr
  exact PySem.W.ksp_neg hF I.ok.mod.kin J B.at_ B.fn (run_fn (us := [.ref a]) (vs := [.ref a]) F hr hb .nil hx I (.cons rfl .nil) q)
theorem cmp (F : FnOk X.prog X.w X.K X.mg X.base CX k f fd ps sp) (hr : Room k X.A) (B : Sp1 X.K C (cmpInfo cop).2.1 f) (hb : Binds X.K fd ps []) (hx : Passes CX X E)
    (ho : ∀ a b, compareOp cop a b = richCompare cop a b := by intro _ _; rfl) : OpR X (compareOp cop) (rCmp X.K C sp E) := by
  rintro pins s σ H x y u v Q I rx ry ⟨a, dx, fs, t, rfl, ha, ty, nf, q⟩
  cases rx
  obtain ⟨od, J⟩ := inst I ha
  obtain ⟨m, hF⟩ := I.fr
  rw [ho]
  exact PySem.W.cmp_K hr.units0 hF I.ok.mod.kin J (typed I ry ty) nf B.at_ B.fn (back (run2 (x := .ref a) F hr hb hx I rfl ry q))
/-- o[i] by the own __getitem__ -/
theorem item (F : FnOk X.prog X.w X.K X.mg X.base CX k f fd ps sp) (hr : Room k X.A) (B : Sp1 X.K C "__getitem__" f) (hq : PySem.W.noSeq X.K C = true) (hb : Binds X.K fd ps []) (hx : Passes CX X E) :
    OpR X getItem (fun x y H Q => ∃ a dx fs, x = .ref a ∧ H a = some (.ins C dx fs) ∧ sp [.ref a, y] H Q E) := by
  rintro pins s σ H x y u v Q I rx ry ⟨a, dx, fs, rfl, ha, q⟩
  cases rx
  obtain ⟨od, J⟩ := inst I ha
  obtain ⟨m, hF⟩ := I.fr
  exact PySem.W.getItem_K hF I.ok.mod.kin J hq B.at_ B.fn (run2 (x := .ref a) F hr hb hx I rfl ry q)
/-- x in o by the own __contains__, which gives a bool -/
theorem isin (F : FnOk X.prog X.w X.K X.mg X.base CX k f fd ps sp) (hr : Room k X.A) (B : Sp1 X.K C "__contains__" f) (hb : Binds X.K fd ps []) (hx : Passes CX X E) :
    OpR X (compareOp .In) (fun x y H Q => ∃ a dx fs, y = .ref a ∧ H a = some (.ins C dx fs) ∧ sp [.ref a, x] H (fun v H' => ∃ b, v = .bl b ∧ Q (.bl b) H') E) := by
  rintro pins s σ H x y u v Q I rx ry ⟨a, dx, fs, rfl, ha, q⟩
  cases ry
  obtain ⟨od, J⟩ := inst I ha
  obtain ⟨m, hF⟩ := I.fr
  refine PySem.W.in_K hF I.ok.mod.kin J B.at_ B.fn (wpAny_mono (run2 (x := .ref a) F hr hb hx I rfl rx q) (fun r s' hq => ?_) fun _ _ e => e)
  obtain ⟨z, H', I', rz, b, rfl, q'⟩ := hq
  cases rz
  exact wpAny_truthy_bool ⟨.bl b, H', I', rfl, q'⟩
/-- truth by the own __bool__ -/
theorem truth (F : FnOk X.prog X.w X.K X.mg X.base CX k f fd ps sp) (hr : Room k X.A) (B : Sp1 X.K C "__bool__" f) (hb : Binds X.K fd ps []) (hx : Passes CX X E) :
    TruR X (fun x H Q => ∃ a dx fs, x = .ref a ∧ H a = some (.ins C dx fs) ∧ sp [.ref a] H (fun v H' => ∃ b, v = .bl b ∧ Q b H') E) := by
  rintro pins s σ H x u Q I rx ⟨a, dx, fs, rfl, ha, q⟩
  cases rx
  obtain ⟨od, J⟩ := inst I ha
  obtain ⟨m, hF⟩ := I.fr
  refine PySem.W.truthy_K hF I.ok.mod.kin J B.at_ B.fn (wpAny_mono (run_fn (us := [.ref a]) (vs := [.ref a]) F hr hb .nil hx I (.cons rfl .nil) q) (fun r s' hq => ?_) fun _ _ e => e)
  obtain ⟨z, H', I', rz, b, rfl, q'⟩ := hq
  cases rz
  exact ⟨H', I', q'⟩
end
end Own
/-! ## int op own: the reflected operator; != by the inherited rule over the own ==; len; a call of an instance -/
namespace Own
open PySem PySem.Spec PyProof.Rows
section
variable {prog : Program} {w : World} {A : Around} {E : Value → Shared → Prop} {s : Shared} {K : PySem.W.Frag} {x C dx f : Addr} {od : Option Obj}
theorem decl_add {i : Int} {t : Tok} {Q : Shared → Prop} (h : s.heap.get? x = some (PySem.W.instObj C dx)) (hq : Q s) :
    wpAny (model prog w) A (Builtin.«int.__add__» ⟨[.int i t, .ref x], []⟩) (fun fin s' => ∃ v, fin = .done (.ret v) ∧ v = .notImplemented ∧ Q s') E s := by
  obtain ⟨hp, g, d, tk, os⟩ := s
  wp_walk using wpAny_load h
  exact ⟨_, rfl, rfl, hq⟩
theorem decl_sub {i : Int} {t : Tok} {Q : Shared → Prop} (h : s.heap.get? x = some (PySem.W.instObj C dx)) (hq : Q s) :
    wpAny (model prog w) A (Builtin.«int.__sub__» ⟨[.int i t, .ref x], []⟩) (fun fin s' => ∃ v, fin = .done (.ret v) ∧ v = .notImplemented ∧ Q s') E s := by
  obtain ⟨hp, g, d, tk, os⟩ := s
  wp_walk using wpAny_load h
  exact ⟨_, rfl, rfl, hq⟩
theorem decl_mul {i : Int} {t : Tok} {Q : Shared → Prop} (h : s.heap.get? x = some (PySem.W.instObj C dx)) (hq : Q s) :
    wpAny (model prog w) A (Builtin.«int.__mul__» ⟨[.int i t, .ref x], []⟩) (fun fin s' => ∃ v, fin = .done (.ret v) ∧ v = .notImplemented ∧ Q s') E s := by
  obtain ⟨hp, g, d, tk, os⟩ := s
  wp_walk using wpAny_load h
  exact ⟨_, rfl, rfl, hq⟩
end
end Own
namespace Own
open PySem PySem.Spec PyProof.Rows
section
variable {prog : Program} {w : World} {A : Around} {E : Value → Shared → Prop} {s : Shared} {K : PySem.W.Frag} {x C dx f f0 : Addr} {od : Option Obj} {op : Operator} {id : String}
/-- an int declines an operator beside an instance, then the instance's reflected one is asked -/
theorem binR {i : Int} {t : Tok} {Q : Value → Shared → Prop} (KX : K.In s.heap) (I : PySem.W.InstAt s.heap x (PySem.W.instObj C dx) C od) (hc : PySem.W.selfFirst K C = true)
    (h0 : PySem.W.findIn K (.ref C) (PySem.dunder op.info.2) = some (some (.ref f0))) (h1 : PySem.W.findIn K (.ref C) (dunderR op.info.2) = some (some (.ref f))) (hf : PySem.W.isFn K (.ref f) = true)
    (hsub : PySem.W.subIn K (.ref C) (.type "int") = some false) (hfill : fillsNumberSlot (.type "int") op.info.2 = pure true) (slot : Slot "int" (PySem.dunder op.info.2) id)
    (decl : wpAny (model prog w) A (call (.builtin id) [.int i t, .ref x]) (fun v s' => v = .notImplemented ∧ s'.heap = s.heap ∧ s'.gens = s.gens ∧ s'.drawn = s.drawn ∧ s'.os = s.os ∧ s'.toks = s.toks) E s)
    (h : wpAny (model prog w) A (call (.ref f) [.ref x, .int i t]) (PySem.W.CmpBack Q) E s) : wpAny (model prog w) A (binaryOp op (.int i t) (.ref x)) Q E s := by
  obtain ⟨cd, rest, hcd, hm⟩ := PySem.W.ksp_first hc
  rcases hi : op.info with ⟨sym, nm⟩
  rw [hi] at h0 h1 hfill slot
  dsimp only at h0 h1 hfill slot
  have two := PySem.W.ksp_try KX I h1 hf h
  obtain ⟨hh, g, d, tt, os⟩ := s
  have L1 : PySem.W.Looks (model prog w) hh (typeOf (.ref x)) (.ref C) := I.type
  have L3 : PySem.W.Looks (model prog w) hh (fillsNumberSlot (.ref C) nm) true := PySem.W.fills_K KX hcd hm h0
  have L5 : PySem.W.Looks (model prog w) hh (isSubtype (.ref C) (.type "int")) false := PySem.W.looks_subIn KX hsub
  have hne : (Value.type "int" == Value.ref C) = false := Bool.eq_false_iff.mpr fun q => by cases beq_iff_eq.mp q
  have hpy : numberSlotInPython (.type "int") nm = pure false := rfl
  have one : wpAny (model prog w) A (tryMethod (.int i t) (PySem.dunder nm) (.ref x)) (fun r s' => r = none ∧ s'.heap = hh ∧ s'.gens = g ∧ s'.drawn = d ∧ s'.os = os ∧ s'.toks = tt) E ⟨hh, g, d, tt, os⟩ :=
    wpAny_tryMethod_declines (T := "int") (typeIs_int _ i t) slot (wpAny_mono decl (fun v s' q => ⟨q.1, rfl, q.2⟩) fun _ _ e => e)
  simp only [binaryOp, hi]
  refine wpAny_holding (wpAny_bind ?_)
  unfold binaryOp1
  refine wpAny_bind (wpAny_typeOf (typeIs_int _ i t) (wpAny_bind (L1.at (wpAny_bind (wpAny_of_eq hfill ?_)))))
  simp only [hne, Bool.false_eq_true, if_false]
  refine wpAny_bind (L3.at ?_)
  simp only [Bool.and_self, if_true]
  refine wpAny_bind (L5.at ?_)
  simp only [Bool.false_eq_true, if_false, pure_bind, Bool.not_false, Bool.and_self, if_true, hpy]
  refine wpAny_bind (wpAny_mono one (fun r s' q => ?_) fun _ _ e => e)
  obtain ⟨h1, g1, d1, t1, o1⟩ := s'
  obtain ⟨rfl, q1, q2, q3, q4, q5⟩ := q
  dsimp only at q1 q2 q3 q4 q5
  subst q1 q2 q3 q4 q5
  dsimp only
  refine wpAny_bind (wpAny_mono two (fun r s' q => ?_) fun _ _ e => e)
  obtain ⟨v, rfl, q⟩ := q
  exact wpAny_bind (wpAny_rule (wpAny_pure (wpAny_pure q)))
end
end Own
namespace Own
open PySem PySem.Spec PyProof.Rows
theorem slot_ne : Slot "object" "__ne__" "object.__ne__" :=
  .of (T := "object") (name := "__ne__") (owner := "object") (n := "__ne__") (by rw [typeLookup_type, builtinLookup_eq_fast]; kernel_rfl) (by decide +kernel) (by decide +kernel) (by decide +kernel)
    (.inl (by decide +kernel)) (by rw [isSubtype_type]; kernel_rfl)
section
variable {prog : Program} {w : World} {A : Around} {E : Value → Shared → Prop} {s : Shared} {K : PySem.W.Frag} {x C dx f : Addr} {od : Option Obj} {b tb : Value}
theorem check_ne {M : Model} {Q : Unit → Shared → Prop} (I : PySem.W.InstAt s.heap x (PySem.W.instObj C dx) C od) (KX : K.In s.heap) (ho : PySem.W.subIn K (.ref C) (.type "object") = some true) (h : Q () s) :
    wpAny M A (checkBuiltinCall "object.__ne__" ⟨[.ref x, b], []⟩) Q E s := by
  have ha : argsOk "object.__ne__" ⟨[.ref x, b], []⟩ := by unfold argsOk; kernel_rfl
  have L : PySem.W.Looks M s.heap (isSubtype (.ref C) (.type "object")) true := PySem.W.looks_subIn KX ho
  have at_ := I.at_
  obtain ⟨hp, g, d, t, os⟩ := s
  simp only [checkBuiltinCall, F.cmpKind_ne, F.cmpSplit_ne]
  refine wpAny_bind ?_
  unfold isInstance
  repeat (first | (with_reducible refine wpAny_loadPart_at at_ ?_) | (with_reducible refine L.at ?_) | wp_step)
  exact h
/-- != of an instance whose class has an own == alone -/
theorem ne_K {Q : Value → Shared → Prop} (hu : A.units + 1 < cLine) (KX : K.In s.heap) (I : PySem.W.InstAt s.heap x (PySem.W.instObj C dx) C od) (hb : PySem.W.Looks (model prog w) s.heap (typeOf b) tb) (hn : PySem.W.notFirst K C tb = true)
    (h0 : PySem.W.findIn K (.ref C) "__ne__" = some (some (.builtin "object.__ne__"))) (h1 : PySem.W.findIn K (.ref C) "__eq__" = some (some (.ref f))) (hf : PySem.W.isFn K (.ref f) = true) (ho : PySem.W.subIn K (.ref C) (.type "object") = some true)
    (h : wpAny (model prog w) A.in1 (call (.ref f) [.ref x, b]) (fun v s' => ∃ c, v = .bool c ∧ Q (.bool (!c)) s') E s) : wpAny (model prog w) A (richCompare .NotEq (.ref x) b) Q E s := by
  have eqc : wpAny (model prog w) A.in1 (callSpecialIfBound? (.ref x) (Str.ofString "__eq__") [b]) (fun r s' => ∃ c, r = some (.bool c) ∧ Q (.bool (!c)) s') E s :=
    PySem.W.ifBound_K KX I h1 hf (wpAny_mono h (fun v s' ⟨c, e, q⟩ => ⟨c, by rw [e], q⟩) fun _ _ e => e)
  have body : wpAny (model prog w) A.in1 (Builtin.«object.__ne__» ⟨[.ref x, b], []⟩) (fun fin s' => ∃ v, fin = .done (.ret v) ∧ ∃ c, v = .bool (!c) ∧ Q (.bool (!c)) s') E s := by
    obtain ⟨hp, g, d, t, os⟩ := s
    unfold Builtin.«object.__ne__»
    repeat (first
      | with_reducible refine wpAny_cRoomFor hu ?_
      | (refine wpAny_bind (m := callSpecialIfBound? (.ref x) (Str.ofString "__eq__") [b]) (wpAny_mono eqc (fun r s' hr => ?_) fun _ _ e => e))
      | wp_step)
    obtain ⟨c, rfl, q⟩ := hr
    repeat (first
      | exact ⟨_, rfl, c, rfl, q⟩
      | exact wpAny_pure ⟨_, rfl, c, rfl, q⟩
      | (refine wpAny_bind (m := truthy (.bool _)) (wpAny_truthy_bool ?_))
      | wp_step)
  have one : wpAny (model prog w) A (tryCompare (.ref x) (Str.ofString "__ne__") b) (fun r s' => ∃ c, r = some (.bool (!c)) ∧ Q (.bool (!c)) s') E s := by
    unfold tryCompare
    refine wpAny_bind ?_
    simp only [callSpecialIfBound?, bindSpecialIfBound?]
    refine wpAny_holding (wpAny_bind (wpAny_bind (wpAny_bind (I.type.here ((PySem.W.looks_findIn KX h0).here ?_)))))
    have last : wpAny (model prog w) A (call (.builtin "object.__ne__") ([.ref x] ++ [b]) >>= fun v => pure (some v)) (fun a s' => wpAny (model prog w) A (match a with | some .notImplemented | none => pure none | some v => pure (some v)) (fun r s' => ∃ c, r = some (.bool (!c)) ∧ Q (.bool (!c)) s') E s') E s := by
      refine wpAny_bind (wpAny_call (codeAny_call_builtin slot_ne.plain F.cmpEntry_ne (check_ne I KX ho (wpAny_mono body (fun fin s' hv => ?_) fun _ _ e => e))))
      obtain ⟨v, rfl, c, rfl, q⟩ := hv
      exact wpAny_pure (wpAny_pure ⟨c, rfl, q⟩)
    refine wpAny_bind (wpAny_askSetting (wpAny_ite ?_))
    simp only [slot_ne.bind]
    split
    · exact wpAny_bind (wpAny_pure (wpAny_pure last))
    · exact wpAny_tryCatch (wpAny_bind (wpAny_pure (wpAny_pure last)))
  unfold richCompare
  simp only [PySem.oneThing_ref]
  refine wpAny_holding (wpAny_bind (wpAny_cRoomFor (Nat.lt_of_succ_lt hu) ?_))
  rw [cmpInfo_NotEq]
  dsimp only
  refine wpAny_bind (I.type.here (wpAny_bind (hb.here ?_)))
  have tail : wpAny (model prog w) A (tryCompare (.ref x) (Str.ofString "__ne__") b) (fun r s' => ∃ v, r = some v ∧ Q v s') E s :=
    wpAny_mono one (fun r s' ⟨c, e, q⟩ => ⟨_, e, q⟩) fun _ _ e => e
  split
  · rename_i q
    have e : PySem.W.subIn K tb (.ref C) = some false := by
      rcases Bool.or_eq_true_iff.mp hn with e | e
      · rw [beq_iff_eq.mp e] at q; simp at q
      · exact beq_iff_eq.mp e
    refine wpAny_bind ((PySem.W.looks_subIn KX e).here ?_)
    simp only [Bool.false_eq_true, if_false]
    refine wpAny_bind (wpAny_mono tail (fun r s' z => ?_) fun _ _ e => e)
    obtain ⟨v, rfl, hq⟩ := z
    exact wpAny_pure hq
  · refine wpAny_bind (wpAny_pure ?_)
    simp only [Bool.false_eq_true, if_false]
    refine wpAny_bind (wpAny_mono tail (fun r s' z => ?_) fun _ _ e => e)
    obtain ⟨v, rfl, hq⟩ := z
    exact wpAny_pure hq
end
end Own
namespace Own
open PySem PySem.Spec PyProof.Rows L2
section
variable {X : Cx} {CX : CXT} {k : Nat} {f f0 C : Addr} {fd : FuncData} {ps : List Str} {sp : Sp} {E : XK} {op : Operator}
/-- a call one step further in -/
theorem runIn {pins : List (Addr × Obj)} {σ : L2.St} {H : Hp} {s : Shared} {Q : VK} {us : List Value} {vs : List V} (F : FnOk X.prog X.w X.K X.mg X.base CX k f fd ps sp) (hr : Room (k + 1) X.A) (hb : Binds X.K fd ps []) (hx : Passes CX X E)
    (I : Inv X pins σ H s) (r : Vals vs us) (h : sp vs H Q E) : wpAny (model X.prog X.w) X.A.in1 (PySem.call (.ref f) us) (EP X pins σ Q) X.xe s := by
  have hl : us.length = ps.length := by rw [← r.length]; exact F.len _ _ _ _ h
  have hb' := hb s us I.kIn (by simpa using hl)
  rw [List.append_nil] at hb'
  refine wpAny_call (codeAny_mono (F.run X.A.in1 X.stack s H ⟨us, []⟩ us vs Q E hr.in1 I.env0.in1 hb' r h) fun r s' hq => ?_)
  cases r with
  | error e => exact hx pins σ H s e s' I hq
  | ok fl =>
    cases fl with
    | ret u => exact I.after hq
    | next => exact False.elim hq
    | brk => exact False.elim hq
    | cont => exact False.elim hq
structure BinR (K : PySem.W.Frag) (C f : Addr) (op : Operator) : Prop where
  first : PySem.W.selfFirst K C = true
  l : ∃ f0 : Addr, PySem.W.findIn K (.ref C) (PySem.dunder op.info.2) = some (some (.ref f0))
  at_ : PySem.W.findIn K (.ref C) (dunderR op.info.2) = some (some (.ref f))
  fn : PySem.W.isFn K (.ref f) = true
  sub : PySem.W.subIn K (.ref C) (.type "int") = some false
def rRight (C : Addr) (sp : Sp) (E : XK) : R2 := fun x y H Q => ∃ i a dx fs, x = .int i ∧ y = .ref a ∧ H a = some (.ins C dx fs) ∧ sp [.ref a, .int i] H Q E
theorem opR_of {id : String} {B : Builtin} (hfill : fillsNumberSlot (.type "int") op.info.2 = pure true) (slot : Slot "int" (PySem.dunder op.info.2) id) (entry : entryFor table id = some B) (args : ∀ a b : Value, argsOk id ⟨[a, b], []⟩)
    (decl : ∀ {prog : Program} {w : World} {A : Around} {E : Value → Shared → Prop} {s : Shared} {x C dx : Addr} {i : Int} {t : Tok} {Q : Shared → Prop}, s.heap.get? x = some (PySem.W.instObj C dx) → Q s →
      wpAny (model prog w) A (B ⟨[.int i t, .ref x], []⟩) (fun fin s' => ∃ v, fin = .done (.ret v) ∧ v = .notImplemented ∧ Q s') E s)
    (F : FnOk X.prog X.w X.K X.mg X.base CX k f fd ps sp) (hr : Room k X.A) (Z : BinR X.K C f op) (hb : Binds X.K fd ps []) (hx : Passes CX X E) : OpR X (binaryOp op) (rRight C sp E) := by
  rintro pins s σ H x y u v Q I rx ry ⟨i, a, dx, fs, rfl, rfl, ha, q⟩
  obtain ⟨t, rfl⟩ := (show ∃ t, u = Value.int i t from rx)
  cases ry
  obtain ⟨od, J⟩ := inst I ha
  obtain ⟨z1, ⟨f0, z2⟩, z3, z4, z5⟩ := Z
  exact binR I.kIn J z1 z2 z3 z4 z5 hfill slot (wpAny_call_entry slot (typeIs_int s i t) entry (wpAny_mono (decl (Q := fun s' => s'.heap = s.heap ∧ s'.gens = s.gens ∧ s'.drawn = s.drawn ∧ s'.os = s.os ∧ s'.toks = s.toks) J.at_ ⟨rfl, rfl, rfl, rfl, rfl⟩) (fun fin s' ⟨v, e, q⟩ => ⟨v, e, q⟩) fun _ _ e => e) (args _ _))
    (back (run2 (x := .ref a) (y := .int i) F hr hb hx I rfl ⟨t, rfl⟩ q))
theorem opRadd (F : FnOk X.prog X.w X.K X.mg X.base CX k f fd ps sp) (hr : Room k X.A) (Z : BinR X.K C f .Add) (hb : Binds X.K fd ps []) (hx : Passes CX X E) : OpR X (binaryOp .Add) (rRight C sp E) :=
  opR_of PySem.F.fills_int_add PySem.F.slot_int_add PySem.F.entry_int_add PySem.F.args_int_add_2 decl_add F hr Z hb hx
theorem opRsub (F : FnOk X.prog X.w X.K X.mg X.base CX k f fd ps sp) (hr : Room k X.A) (Z : BinR X.K C f .Sub) (hb : Binds X.K fd ps []) (hx : Passes CX X E) : OpR X (binaryOp .Sub) (rRight C sp E) :=
  opR_of PySem.F.fills_int_sub PySem.F.slot_int_sub PySem.F.entry_int_sub PySem.F.args_int_sub_2 decl_sub F hr Z hb hx
theorem opRmul (F : FnOk X.prog X.w X.K X.mg X.base CX k f fd ps sp) (hr : Room k X.A) (Z : BinR X.K C f .Mult) (hb : Binds X.K fd ps []) (hx : Passes CX X E) : OpR X (binaryOp .Mult) (rRight C sp E) :=
  opR_of PySem.F.fills_int_mul PySem.F.slot_int_mul PySem.F.entry_int_mul PySem.F.args_int_mul_2 decl_mul F hr Z hb hx
structure Ne (K : PySem.W.Frag) (C f : Addr) : Prop where
  ne : PySem.W.findIn K (.ref C) "__ne__" = some (some (.builtin "object.__ne__"))
  eq : PySem.W.findIn K (.ref C) "__eq__" = some (some (.ref f))
  fn : PySem.W.isFn K (.ref f) = true
  ob : PySem.W.subIn K (.ref C) (.type "object") = some true
def rNeOwn (K : PySem.W.Frag) (C : Addr) (sp : Sp) (E : XK) : R2 := fun x y H Q => ∃ a dx fs t, x = .ref a ∧ H a = some (.ins C dx fs) ∧ TyX K H y t ∧ PySem.W.notFirst K C t = true ∧ sp [.ref a, y] H (fun v H' => ∃ b, v = .bl b ∧ Q (.bl (!b)) H') E
theorem ne (F : FnOk X.prog X.w X.K X.mg X.base CX k f fd ps sp) (hr : Room (k + 1) X.A) (Z : Ne X.K C f) (hb : Binds X.K fd ps []) (hx : Passes CX X E) : OpR X (compareOp .NotEq) (rNeOwn X.K C sp E) := by
  rintro pins s σ H x y u v Q I rx ry ⟨a, dx, fs, t, rfl, ha, ty, nf, q⟩
  cases rx
  obtain ⟨od, J⟩ := inst I ha
  have hu : X.A.units + 1 < cLine := hu_of hr
  exact ne_K hu I.kIn J (typed I ry ty) nf Z.ne Z.eq Z.fn Z.ob (wpAny_mono (runIn (us := [.ref a, v]) (vs := [.ref a, y]) F hr hb hx I (.cons rfl (.cons ry .nil)) q) (fun r s' hq => by
    obtain ⟨z, H', I', rz, b, rfl, q'⟩ := hq
    cases rz
    exact ⟨b, rfl, .bl (!b), H', I', rfl, q'⟩) fun _ _ e => e)
/-- len(o) by the own __len__ -/
theorem len (F : FnOk X.prog X.w X.K X.mg X.base CX k f fd ps sp) (hr : Room (k + 1) X.A) (B : Sp1 X.K C "__len__" f) (hb : Binds X.K fd ps []) (hx : Passes CX X E) :
    CallR X (.builtin "len") (fun xs H Q => ∃ a dx fs, xs = [.ref a] ∧ H a = some (.ins C dx fs) ∧ sp [.ref a] H (fun v H' => ∃ n, v = .int n ∧ 0 ≤ n ∧ n < 2 ^ 63 ∧ Q (.int n) H') E) := by
  rintro pins s σ H xs us Q I rs ⟨a, dx, fs, rfl, ha, q⟩
  cases rs with
  | cons r rest =>
    cases rest
    cases r
    obtain ⟨od, J⟩ := inst I ha
    obtain ⟨m, hF⟩ := I.fr
    refine PySem.W.len_K hF I.ok.mod.kin J B.at_ B.fn (wpAny_mono (runIn (us := [.ref a]) (vs := [.ref a]) F hr hb hx I (.cons rfl .nil) q) (fun r s' hq => ?_) fun _ _ e => e)
    obtain ⟨z, H', I', rz, n, rfl, h0, h1, q'⟩ := hq
    obtain ⟨t, rfl⟩ := (show ∃ t, r = Value.int n t from rz)
    exact ⟨⟨h0, h1⟩, .int n, H', I'.tok _, ⟨_, rfl⟩, q'⟩
end
theorem fnR_of {P : Program} {w : World} {K : PySem.W.Frag} {mg : Str → Option Value} {base : Heap} {CX : CXT} {k : Nat} {f : Addr} {fd : FuncData} {ps : List Str} {sp : Sp} (F : FnOk P w K mg base CX k f fd ps sp) (hb : Binds K fd ps []) : FnR P w K mg base CX k f sp := by
  intro A outer s H us vs Q E hr e0 r h
  have KX : K.In s.heap := e0.mod.kin.keeps fun b o e => (e0.bs b o e).1
  have hl : us.length = ps.length := by rw [← r.length]; exact F.len _ _ _ _ h
  have hb' := hb s us KX (by simpa using hl)
  rw [List.append_nil] at hb'
  exact F.run A outer s H ⟨us, []⟩ us vs Q E hr e0 hb' r h
def rIop (C : Addr) (sp : Sp) (E : XK) : R2 := fun x y H Q => ∃ a dx fs, x = .ref a ∧ H a = some (.ins C dx fs) ∧ sp [.ref a, y] H Q E
theorem pip {X : Cx} {C : Addr} {sp : Sp} {E : XK} {op : Operator} (h : OpR X (inplaceOp op) (fun x y H Q => ∃ a dx fs, x = .ref a ∧ H a = some (.ins C dx fs) ∧ sp [.ref a, y] H Q E)) : PIp X op (rIop C sp E) :=
  fun pins s σ H x y v u Q I rx ry q => h pins s σ H x y v u Q I rx ry q
theorem iop2 {H : Hp} {Q : VK} {C a dx : Addr} {sp : Sp} {E : XK} {fs : List (Str × V)} {y : V} (ha : H a = some (.ins C dx fs)) (h : sp [.ref a, y] H Q E) : rIop C sp E (.ref a) y H Q := ⟨a, dx, fs, rfl, ha, h⟩
/-- f(e, ..), f an expression that gives an instance of C: the reading speaks of the heap alone -/
def tCallI (C : Addr) (sp : Sp) (E : XK) (tf : TE) (t : TA) : TE := fun σ H Q => tf σ H fun y H1 => ∃ a, y = V.ref a ∧ t σ H1 fun vs H2 => (∃ dx fs, H2 a = some (.ins C dx fs)) ∧ sp (V.ref a :: vs) H2 Q E
theorem pe_callI {X : Cx} {CX : CXT} {k : Nat} {g C : Addr} {sp : Sp} {E : XK} {fe e : Expr} {es : List Expr} {tf : TE} {t : TA} {pos : Pos} (hf : PE X fe tf) (c : StX.CallO X.K C g) (F : FnR X.prog X.w X.K X.mg X.base CX k g sp) (hr : Room k X.A) (hx : Passes CX X E) (ha : PA X (e :: es) t)
    (ht : eval (.Call fe (e :: es) [] pos) X.env = (do callWith pos (← eval fe X.env) [] (backTo pos (starEach (e :: es) X.env)) (backToKw pos (keywordEach [] X.env))) := by rfl)
    (he : starEach (e :: es) X.env = (false, eval e X.env) :: starEach es X.env := by rfl) (hpl : (backTo pos (starEach es X.env)).any (·.1) = false := by rfl) : PE X (.Call fe (e :: es) [] pos) (tCallI C sp E tf t) := by
  refine ⟨fun pins s σ H Q I h => Call_ (thn (hf.run pins s σ H _ I h) fun u s1 z => ?_) ht⟩
  obtain ⟨y, H1, I1, ry, a, rfl, q⟩ := z
  cases ry
  refine StX.callO_with (thn (ha.run pos pins s1 σ H1 _ I1 q) fun us s2 z2 => ?_) he hpl
  obtain ⟨vs, H2, I2, r, hi, q2⟩ := z2
  obtain ⟨od, J⟩ : ∃ od, PySem.W.InstAt s2.heap a (PySem.W.instObj C hi.choose) C od := inst I2 hi.choose_spec.choose_spec
  exact ⟨⟨C, _, od, J, rfl⟩, StX.run_callO c F hr hx I2 (.inr hi) r q2⟩
section
variable {σ : L2.St} {H : Hp} {Q : VK} {C : Addr} {sp : Sp} {E : XK}
theorem opS2 {a b dx dy : Addr} {fs gs : List (Str × V)} (ha : H a = some (.ins C dx fs)) (hb : H b = some (.ins C dy gs)) (h : sp [.ref a, .ref b] H Q E) : rSame C sp E (.ref a) (.ref b) H Q := ⟨a, b, dx, dy, fs, gs, rfl, rfl, ha, hb, h⟩
theorem opT2 {a dx : Addr} {fs : List (Str × V)} {T : String} {y : V} (ha : H a = some (.ins C dx fs)) (ty : ∀ u, RelV y u → typeOf u = pure (.type T)) (h : sp [.ref a, y] H Q E) : rLeft C T sp E (.ref a) y H Q := ⟨a, dx, fs, rfl, ha, ty, h⟩
theorem opR2 {a dx : Addr} {fs : List (Str × V)} {i : Int} (ha : H a = some (.ins C dx fs)) (h : sp [.ref a, .int i] H Q E) : rRight C sp E (.int i) (.ref a) H Q := ⟨i, a, dx, fs, rfl, rfl, ha, h⟩
theorem neg2 {a dx : Addr} {fs : List (Str × V)} (ha : H a = some (.ins C dx fs)) (h : sp [.ref a] H Q E) : rOne C sp E (.ref a) H Q := ⟨a, dx, fs, rfl, ha, h⟩
theorem cmp2 {K : PySem.W.Frag} {a dx : Addr} {fs : List (Str × V)} {y : V} {t : Value} (ha : H a = some (.ins C dx fs)) (ty : TyX K H y t) (nf : PySem.W.notFirst K C t = true) (h : sp [.ref a, y] H Q E) : rCmp K C sp E (.ref a) y H Q := ⟨a, dx, fs, t, rfl, ha, ty, nf, h⟩
theorem ne2 {K : PySem.W.Frag} {a dx : Addr} {fs : List (Str × V)} {y : V} {t : Value} (ha : H a = some (.ins C dx fs)) (ty : TyX K H y t) (nf : PySem.W.notFirst K C t = true) (h : sp [.ref a, y] H (fun v H' => ∃ b, v = .bl b ∧ Q (.bl (!b)) H') E) : rNeOwn K C sp E (.ref a) y H Q := ⟨a, dx, fs, t, rfl, ha, ty, nf, h⟩
theorem callI {tf : TE} {t : TA} (h : tf σ H fun y H1 => ∃ a, y = V.ref a ∧ t σ H1 fun vs H2 => (∃ dx fs, H2 a = some (.ins C dx fs)) ∧ sp (V.ref a :: vs) H2 Q E) : tCallI C sp E tf t σ H Q := h
theorem ty_int {i : Int} : ∀ u, RelV (.int i) u → typeOf u = pure (.type "int") := by
  rintro u ⟨t, rfl⟩
  rfl
end
end Own
/-! ## lists made of lists, and what == says of ints -/
namespace Rd
open PySem PySem.Spec PyProof.Rows L2
theorem lc {wi : TI} {g : TG} {tt : TT} {te : TE} {vs : List Nat} {σ : L2.St} {H : Hp} {Q : VK} (h : wi σ H fun J H1 => ∀ D, H1 D = none → ∃ W : Nat → Nat → Hp → Prop, (∃ m, W 0 m (upd H1 D (.lst []))) ∧ ∀ i m H, W i m H →
    (J.stop i H ∧ Q (.ref D) H) ∨ (J.go i H ∧ ∃ Nx : Hp → Prop, (∀ H', Nx H' → ∃ m', m' < m ∧ W (i + 1) m' H') ∧ ∀ x H', J.yld i H x H' → g x (wipe σ vs) H' fun σ2 H2 => wipe σ2 vs = wipe σ vs ∧ tt σ2 H2 fun b H3 =>
      if b = true then te σ2 H3 fun y H4 => ∃ acc, H4 D = some (.lst acc) ∧ acc.length < sizeLine ∧ Nx (upd H4 D (.lst (acc ++ [y]))) else Nx H3)) : tLc wi g tt te vs σ H Q := h
theorem il {K : PySem.W.Frag} {tl : TE} {σ : L2.St} {H : Hp} {R : It → Hp → Prop} (h : tl σ H fun x H1 => ∃ a, x = .ref a ∧ (∃ xs, SqL K H1 a xs) ∧ R (Itl K a) H1) : iList K tl σ H R := h
theorem same_upd {H H' : Hp} {D : Addr} {o : HO} (hD : H D = none) (S : Same H H') : Same H (upd H' D o) := fun b u e => by
  rw [upd_ne (ne_of_none e hD)]
  exact S b u e
/-- [e for x in l]: the items' images, where e makes the image and leaves what was tracked -/
theorem lcMap {α : Type} {items : List α} {inj res : α → V} {K : PySem.W.Frag} {a : Addr} {i : Nat} {te : TE} {vs : List Nat} {σ : L2.St} {H : Hp} {Q : VK} (hs : SqL K H a (items.map inj)) (hn : items.length ≤ 1000)
    (hw : ∀ x, wipe ((wipe σ vs).set i (some x)) vs = wipe σ vs)
    (elem : ∀ x ∈ items, ∀ H', Same H H' → ∀ R : VK, (∀ H'', Same H' H'' → R (res x) H'') → te ((wipe σ vs).set i (some (inj x))) H' R)
    (k : ∀ (p : Addr) (H' : Hp), H p = none → Same H H' → H' p = some (.lst (items.map res)) → Q (.ref p) H') :
    (∃ xs, SqL K H a xs) ∧ ∀ D, H D = none → ∃ W : Nat → Nat → Hp → Prop, (∃ m, W 0 m (upd H D (.lst []))) ∧ ∀ t m H, W t m H →
      ((Itl K a).stop t H ∧ Q (.ref D) H) ∨ ((Itl K a).go t H ∧ ∃ Nx : Hp → Prop, (∀ H', Nx H' → ∃ m', m' < m ∧ W (t + 1) m' H') ∧ ∀ x H', (Itl K a).yld t H x H' → (gName i) x (wipe σ vs) H' fun σ2 H2 => wipe σ2 vs = wipe σ vs ∧ tYes σ2 H2 fun b H3 =>
        if b = true then te σ2 H3 fun y H4 => ∃ acc, H4 D = some (.lst acc) ∧ acc.length < sizeLine ∧ Nx (upd H4 D (.lst (acc ++ [y]))) else Nx H3) := by
  refine ⟨⟨_, hs⟩, fun D hD => lc_list (xs := items.map inj) (fun t H' => Same H H' ∧ H' D = some (.lst ((items.take t).map res))) ⟨same_upd hD (Same.refl _), upd_same⟩ (fun t H' _ p => p.1.seq hs) (fun t x H' hx p => ?_) (fun H' p => ?_)⟩
  · obtain ⟨S, hl⟩ := p
    rw [List.getElem?_map] at hx
    cases e : items[t]? with
    | none => rw [e] at hx; cases hx
    | some y =>
      rw [e] at hx
      cases hx
      have hy : y ∈ items := List.mem_of_getElem? e
      have ht : t < items.length := (List.getElem?_eq_some_iff.mp e).1
      refine ⟨hw _, iteT (B := Same H H' ∧ H' D = some (.lst ((items.take (t + 1)).map res))) rfl (elem y hy H' S _ fun H'' S' => ⟨_, S' _ _ hl, ?_, ?_, ?_⟩)⟩
      · rw [List.length_map, List.length_take]
        exact small1000 (by omega)
      · exact same_upd hD (S.trans S')
      · rw [upd_same, List.take_add_one, e]
        simp
  · obtain ⟨S, hl⟩ := p
    rw [List.length_map, List.take_length] at hl
    exact k D H' hD S hl
theorem lcMapI {ns : List Int} {g : Int → Int} {K : PySem.W.Frag} {a : Addr} {i : Nat} {te : TE} {vs : List Nat} {σ : L2.St} {H : Hp} {Q : VK} (hs : SqL K H a (ns.map V.int)) (hn : ns.length ≤ 1000)
    (hw : ∀ x, wipe ((wipe σ vs).set i (some x)) vs = wipe σ vs)
    (elem : ∀ x ∈ ns, ∀ H', Same H H' → ∀ R : VK, (∀ H'', Same H' H'' → R (.int (g x)) H'') → te ((wipe σ vs).set i (some (.int x))) H' R)
    (k : ∀ (p : Addr) (H' : Hp), H p = none → Same H H' → H' p = some (.lst ((ns.map g).map V.int)) → Q (.ref p) H') :
    (∃ xs, SqL K H a xs) ∧ ∀ D, H D = none → ∃ W : Nat → Nat → Hp → Prop, (∃ m, W 0 m (upd H D (.lst []))) ∧ ∀ t m H, W t m H →
      ((Itl K a).stop t H ∧ Q (.ref D) H) ∨ ((Itl K a).go t H ∧ ∃ Nx : Hp → Prop, (∀ H', Nx H' → ∃ m', m' < m ∧ W (t + 1) m' H') ∧ ∀ x H', (Itl K a).yld t H x H' → (gName i) x (wipe σ vs) H' fun σ2 H2 => wipe σ2 vs = wipe σ vs ∧ tYes σ2 H2 fun b H3 =>
        if b = true then te σ2 H3 fun y H4 => ∃ acc, H4 D = some (.lst acc) ∧ acc.length < sizeLine ∧ Nx (upd H4 D (.lst (acc ++ [y]))) else Nx H3) :=
  lcMap (inj := V.int) (res := fun x => .int (g x)) hs hn hw elem fun p H' hp S h => k p H' hp S (by rw [List.map_map]; exact h)
theorem lcVarI {ns : List Int} {g : Int → Int} {K : PySem.W.Frag} {a : Addr} {i j : Nat} {te : TE} {vs : List Nat} {σ : L2.St} {H : Hp} {Q : VK} (ej : σ[j]? = some (some (.ref a))) (hs : SqL K H a (ns.map V.int)) (hn : ns.length ≤ 1000)
    (hw : ∀ x, wipe ((wipe σ vs).set i (some x)) vs = wipe σ vs)
    (elem : ∀ x ∈ ns, ∀ H', Same H H' → ∀ R : VK, (∀ H'', Same H' H'' → R (.int (g x)) H'') → te ((wipe σ vs).set i (some (.int x))) H' R)
    (k : ∀ (p : Addr) (H' : Hp), H p = none → Same H H' → H' p = some (.lst ((ns.map g).map V.int)) → Q (.ref p) H') : tLc (iList K (tVar j)) (gName i) tYes te vs σ H Q :=
  lc (il ⟨_, ej, _, rfl, lcMapI hs hn hw elem k⟩)
/-- [e for x in l if t] where t never holds: a new empty list -/
theorem lcNone {items : List V} {K : PySem.W.Frag} {a : Addr} {i j : Nat} {te : TE} {tt : TT} {vs : List Nat} {σ : L2.St} {H : Hp} {Q : VK} (ej : σ[j]? = some (some (.ref a))) (hs : SqL K H a items)
    (hw : ∀ x, wipe ((wipe σ vs).set i (some x)) vs = wipe σ vs)
    (test : ∀ x ∈ items, ∀ H', Same H H' → ∀ R : Bool → Hp → Prop, (∀ H'', Same H' H'' → R false H'') → tt ((wipe σ vs).set i (some x)) H' R)
    (k : ∀ (p : Addr) (H' : Hp), H p = none → Same H H' → H' p = some (.lst []) → Q (.ref p) H') : tLc (iList K (tVar j)) (gName i) tt te vs σ H Q := by
  refine lc (il ⟨_, ej, _, rfl, ⟨_, hs⟩, fun D hD => lc_list (xs := items) (fun _ H' => Same H H' ∧ H' D = some (.lst [])) ⟨same_upd hD (Same.refl _), upd_same⟩ (fun t H' _ p => p.1.seq hs) (fun t x H' hx p => ?_) (fun H' p => k D H' hD p.1 p.2)⟩)
  obtain ⟨S, hl⟩ := p
  refine ⟨hw _, test x (List.mem_of_getElem? hx) H' S _ fun H'' S' => ?_⟩
  exact iteF (A := te _ H'' _) rfl ⟨S.trans S', S' _ _ hl⟩
theorem mulB {a n : Int} {A B : Nat} (ha : a.natAbs < 2 ^ A) (hn : n.natAbs < 2 ^ B) : -(2 ^ (A + B)) < a * n ∧ a * n < 2 ^ (A + B) := by
  have h := wide_lt ha hn
  have e : ((2 ^ (A + B) : Nat) : Int) = (2 : Int) ^ (A + B) := by simp
  rw [← e]
  omega
theorem dp_ints {K : PySem.W.Frag} {H : Hp} : ∀ ns : List Int, DpAll K H (ns.map V.int) (ns.map PyData.int)
  | [] => .nil
  | _ :: r => .cons (.int _) (dp_ints r)
theorem dp_listI {K : PySem.W.Frag} {H : Hp} {a : Addr} {ns : List Int} (h : SqL K H a (ns.map V.int)) : Dp K H (.ref a) (.list (ns.map PyData.int)) := .lst h (dp_ints ns)
theorem can_ints : ∀ ns : List Int, PyData.canLayAll0 (ns.map PyData.int) = true
  | [] => by simp [PyData.canLayAll0]
  | _ :: r => by simp only [List.map_cons, PyData.canLayAll0, PyData.canLay0, can_ints r, Bool.and_self]
theorem dep_ints : ∀ ns : List Int, PyData.depthAll (ns.map PyData.int) = 0
  | [] => by simp [PyData.depthAll]
  | _ :: r => by simp only [List.map_cons, PyData.depthAll, PyData.depth, dep_ints r, Nat.max_self]
theorem shaped_listI (ns : List Int) : SeqAt.shaped (.list (ns.map PyData.int)) = true := by
  simp only [SeqAt.shaped, PyData.canLay0, can_ints, PyData.depth, dep_ints]
  decide
theorem eqvAll_ints : ∀ ns ms : List Int, PyData.eqvAll (ns.map PyData.int) (ms.map PyData.int) = decide (ns = ms)
  | [], [] => by simp [PyData.eqvAll]
  | [], _ :: _ => by simp [PyData.eqvAll]
  | _ :: _, [] => by simp [PyData.eqvAll]
  | x :: r, y :: q => by
    simp only [List.map_cons, PyData.eqvAll, PyData.eqv, eqvAll_ints r q]
    by_cases h : x = y
    · subst h; simp
    · simp [h]
theorem eqv_listI (ns ms : List Int) : PyData.eqv (.list (ns.map PyData.int)) (.list (ms.map PyData.int)) = decide (ns = ms) := by
  simp only [PyData.eqv, eqvAll_ints]
theorem eqv_pair (a b c d : Int) : PyData.eqv (.tuple [.int a, .int b]) (.tuple [.int c, .int d]) = (a == c && b == d) := by
  simp [PyData.eqv, PyData.eqvAll]
theorem eqv_pairV (a b c d : Int) : PyData.eqv (.tuple [.int a, .int b]) (.tuple [.int c, .int d]) = (decide (V.int a = .int c) && decide (V.int b = .int d)) := by
  simp only [PyData.eqv, PyData.eqvAll, Bool.and_true, V.int.injEq]
  rw [Bool.eq_iff_iff]
  simp
theorem dp_pair {K : PySem.W.Frag} {H : Hp} {p : Addr} {a b : Int} (h : SqT K H p [.int a, .int b]) : Dp K H (.ref p) (.tuple [.int a, .int b]) := .tup h (.cons (.int _) (.cons (.int _) .nil))
theorem shaped_pair (a b : Int) : SeqAt.shaped (.tuple [.int a, .int b]) = true := by
  simp only [SeqAt.shaped, PyData.canLay0, PyData.canLayAll0, PyData.depth, PyData.depthAll]
  rfl
theorem isi {X : Cx} {K : PySem.W.Frag} (e : X.K = K) : CallR X (.builtin "isinstance") (rIsi K) := e ▸ call_isi
theorem dp_nil {K : PySem.W.Frag} {H : Hp} {p : Addr} (h : SqL K H p []) : Dp K H (.ref p) (.list []) := .lst h .nil
theorem eqv_nil : PyData.eqv (.list []) (.list []) = true := by simp [PyData.eqv, PyData.eqvAll]
theorem shaped_nil : SeqAt.shaped (.list []) = true := by
  simp only [SeqAt.shaped, PyData.canLay0, PyData.canLayAll0, PyData.depth, PyData.depthAll]
  rfl
/-- an item of a written list of ints at a drawn place -/
theorem pick {ns : List Int} {lo hi : Int} {K : PySem.W.Frag} {H : Hp} {a : Addr} {xs : List V} {d : Int} {Q : VK} (hm : ∀ n ∈ ns, lo ≤ n ∧ n ≤ hi) (e : SqL K H a xs) (eq : xs = ns.map V.int) (h0 : 0 ≤ d) (h1 : d < (ns.length : Int))
    (h : ∀ n : Int, n ∈ ns → lo ≤ n → n ≤ hi → Q (.int n) H) : rIxL K (.ref a) (.int d) H Q := by
  subst eq
  obtain ⟨j, rfl⟩ : ∃ j : Nat, d = (j : Int) := ⟨d.toNat, by omega⟩
  have hj : j < ns.length := by omega
  have hn : ns[j] ∈ ns := List.getElem_mem hj
  exact ⟨a, _, _, .int ns[j], rfl, rfl, e, atI_nat (by rw [List.getElem?_map, List.getElem?_eq_getElem hj]; rfl), h _ hn (hm _ hn).1 (hm _ hn).2⟩
theorem sgn {d n B : Int} (h0 : 0 ≤ d) (h1 : d < B) (m : n ∈ [(1 : Int), -1]) : -B < d * n ∧ d * n < B := by
  simp only [List.mem_cons, List.not_mem_nil, or_false] at m
  rcases m with rfl | rfl <;> omega
end Rd
/-! ## pairs in order, lists of truths -/
namespace Rd
open PySem PySem.Spec PyProof.Rows L2
/-- what an order of pairs says: rr of the first unlike parts, z where all are alike -/
def rPr (K : PySem.W.Frag) (z : Bool) (rr : Int → Int → Bool) : R2 := fun x y H Q => ∃ (p q : Addr) (a b c d : Int), x = .ref p ∧ y = .ref q ∧ SqT K H p [.int a, .int b] ∧ SqT K H q [.int c, .int d] ∧ Q (.bl (if a = c then (if b = d then z else rr b d) else rr a c)) H
theorem pair_ints {us : List Value} {a b : Int} (h : IntsAre us [a, b]) : ∃ t u, us = [.int a t, .int b u] := by
  cases h with
  | cons _ t h1 =>
    cases h1 with
    | cons _ u h2 =>
      cases h2
      exact ⟨t, u, rfl⟩
theorem opPr {X : Cx} {op : CmpOp} {z : Bool} {rr : Int → Int → Bool}
    (T : ∀ {s : Shared} {l m : Addr} {u1 u2 w1 w2 : Value} {e r : Nat → Bool}, s.heap.IsTuple l #[u1, u2] → s.heap.IsTuple m #[w1, w2] →
      (∀ j (h1 : j < (#[u1, u2] : Array Value).size) (h2 : j < (#[w1, w2] : Array Value).size), SeqAt.EqAt X.A.in1 s (#[u1, u2] : Array Value)[j] (#[w1, w2] : Array Value)[j] (e j)) →
      (∀ j (h1 : j < (#[u1, u2] : Array Value).size) (h2 : j < (#[w1, w2] : Array Value).size), e j = false → Ob.RcOp op X.A.in1 s (#[u1, u2] : Array Value)[j] (#[w1, w2] : Array Value)[j] (r j)) → Ob.RcOp op X.A s (.ref l) (.ref m) (Ob.lexAt e r z 0 2))
    (I1 : ∀ {s : Shared} (a b : Int) (t u : Tok), Ob.RcOp op X.A.in1 s (.int a t) (.int b u) (rr a b))
    (hop : ∀ (x y : Value), compareOp op x y = richCompare op x y) : OpR X (compareOp op) (rPr X.K z rr) := by
  intro pins s σ H x y v u Q I rx ry h
  obtain ⟨p, q, a, b, c, d, rfl, rfl, hp, hq, k⟩ := h
  cases rx
  cases ry
  obtain ⟨us, r1, p1, _⟩ := I.tuple hp
  obtain ⟨ws, r2, p2, _⟩ := I.tuple hq
  obtain ⟨t1, t2, rfl⟩ := pair_ints (Vals.ints (ns := [a, b]) r1)
  obtain ⟨t3, t4, rfl⟩ := pair_ints (Vals.ints (ns := [c, d]) r2)
  have R := T (s := s) (e := fun j => if j = 0 then decide (a = c) else decide (b = d)) (r := fun j => if j = 0 then rr a c else rr b d) p1 p2 (fun j h1 h2 => by
    rcases j with _ | _ | j
    · have w := SeqAt.EqAt.int_int (A := X.A.in1) (s := s) a t1 c t3
      rw [show (a == c) = decide (a = c) from by by_cases e : a = c <;> simp [e]] at w
      exact w
    · have w := SeqAt.EqAt.int_int (A := X.A.in1) (s := s) b t2 d t4
      rw [show (b == d) = decide (b = d) from by by_cases e : b = d <;> simp [e]] at w
      exact w
    · exact absurd h1 (by simp)) (fun j h1 h2 _ => by
    rcases j with _ | _ | j
    · exact I1 a c t1 t3
    · exact I1 b d t2 t4
    · exact absurd h1 (by simp))
  have hb : Ob.lexAt (fun j => if j = 0 then decide (a = c) else decide (b = d)) (fun j => if j = 0 then rr a c else rr b d) z 0 2 = (if a = c then (if b = d then z else rr b d) else rr a c) := by
    simp only [Ob.lexAt, decide_eq_true_eq, if_pos]
    by_cases e : a = c <;> by_cases f : b = d <;> simp [e, f]
  rw [hb] at R
  show wpAny (model X.prog X.w) X.A (compareOp op (.ref p) (.ref q)) (EP X pins σ Q) X.xe s
  rw [hop]
  exact R X.prog X.w X.xe (EP X pins σ Q) ⟨.bl _, H, I, rfl, k⟩
theorem opPrLt {X : Cx} (hu : X.A.units < cLine) : OpR X (compareOp .Lt) (rPr X.K false fun a b => decide (a < b)) :=
  opPr (fun h1 h2 e r => Ob.RcOp.tuples_lt h1 h2 hu e r) (fun a b t u => Ob.RcOp.lt_int a b t u) (fun _ _ => rfl)
theorem opPrLe {X : Cx} (hu : X.A.units < cLine) : OpR X (compareOp .LtE) (rPr X.K true fun a b => decide (a ≤ b)) :=
  opPr (fun h1 h2 e r => Ob.RcOp.tuples_le h1 h2 hu e r) (fun a b t u => Ob.RcOp.le_int a b t u) (fun _ _ => rfl)
theorem opPrGt {X : Cx} (hu : X.A.units < cLine) : OpR X (compareOp .Gt) (rPr X.K false fun a b => decide (b < a)) :=
  opPr (fun h1 h2 e r => Ob.RcOp.tuples_gt h1 h2 hu e r) (fun a b t u => Ob.RcOp.gt_int a b t u) (fun _ _ => rfl)
theorem opPrGe {X : Cx} (hu : X.A.units < cLine) : OpR X (compareOp .GtE) (rPr X.K true fun a b => decide (b ≤ a)) :=
  opPr (fun h1 h2 e r => Ob.RcOp.tuples_ge h1 h2 hu e r) (fun a b t u => Ob.RcOp.ge_int a b t u) (fun _ _ => rfl)
section
variable {K : PySem.W.Frag} {H : Hp} {p q : Addr} {a b c d : Int} {Q : VK}
theorem prLt (e : SqT K H p [.int a, .int b]) (f : SqT K H q [.int c, .int d]) (h : Q (.bl (decide (a < c ∨ a = c ∧ b < d))) H) : rPr K false (fun a b => decide (a < b)) (.ref p) (.ref q) H Q := by
  refine ⟨_, _, a, b, c, d, rfl, rfl, e, f, ?_⟩
  have w : (if a = c then (if b = d then false else decide (b < d)) else decide (a < c)) = decide (a < c ∨ a = c ∧ b < d) := by
    split <;> (try split) <;> (rw [eq_comm]; first | (apply decide_eq_false; omega) | (congr 1; apply propext; omega))
  rw [w]
  exact h
theorem prLe (e : SqT K H p [.int a, .int b]) (f : SqT K H q [.int c, .int d]) (h : Q (.bl (decide (a < c ∨ a = c ∧ b ≤ d))) H) : rPr K true (fun a b => decide (a ≤ b)) (.ref p) (.ref q) H Q := by
  refine ⟨_, _, a, b, c, d, rfl, rfl, e, f, ?_⟩
  have w : (if a = c then (if b = d then true else decide (b ≤ d)) else decide (a ≤ c)) = decide (a < c ∨ a = c ∧ b ≤ d) := by
    split <;> (try split) <;> (rw [eq_comm]; first | (apply decide_eq_true; omega) | (congr 1; apply propext; omega))
  rw [w]
  exact h
theorem prGt (e : SqT K H p [.int a, .int b]) (f : SqT K H q [.int c, .int d]) (h : Q (.bl (decide (c < a ∨ a = c ∧ d < b))) H) : rPr K false (fun a b => decide (b < a)) (.ref p) (.ref q) H Q := by
  refine ⟨_, _, a, b, c, d, rfl, rfl, e, f, ?_⟩
  have w : (if a = c then (if b = d then false else decide (d < b)) else decide (c < a)) = decide (c < a ∨ a = c ∧ d < b) := by
    split <;> (try split) <;> (rw [eq_comm]; first | (apply decide_eq_false; omega) | (congr 1; apply propext; omega))
  rw [w]
  exact h
theorem prGe (e : SqT K H p [.int a, .int b]) (f : SqT K H q [.int c, .int d]) (h : Q (.bl (decide (c < a ∨ a = c ∧ d ≤ b))) H) : rPr K true (fun a b => decide (b ≤ a)) (.ref p) (.ref q) H Q := by
  refine ⟨_, _, a, b, c, d, rfl, rfl, e, f, ?_⟩
  have w : (if a = c then (if b = d then true else decide (d ≤ b)) else decide (c ≤ a)) = decide (c < a ∨ a = c ∧ d ≤ b) := by
    split <;> (try split) <;> (rw [eq_comm]; first | (apply decide_eq_true; omega) | (congr 1; apply propext; omega))
  rw [w]
  exact h
end
/-- t + u, of pairs -/
theorem catP {K : PySem.W.Frag} {H : Hp} {p q : Addr} {a b c d : V} {Q : VK} (e : SqT K H p [a, b]) (f : SqT K H q [c, d]) (h : ∀ r, H r = none → Q (.ref r) (upd H r (.tup [a, b, c, d]))) : rCatT K (.ref p) (.ref q) H Q :=
  ⟨p, q, _, _, rfl, rfl, e, f, by simp, Nat.le_of_lt (small1000 (show 4 ≤ 1000 by decide)), fun z => absurd z (by simp), fun _ r hr => h r hr⟩
theorem it {K : PySem.W.Frag} {tl : TE} {σ : L2.St} {H : Hp} {R : It → Hp → Prop} (h : tl σ H fun x H1 => ∃ a, x = .ref a ∧ (∃ xs, SqT K H1 a xs) ∧ R (Itt K a) H1) : iTup K tl σ H R := h
theorem ckw {r : List V → List V → Hp → VK → Prop} {t tk : TA} {σ : L2.St} {H : Hp} {Q : VK} (h : t σ H fun vs H1 => tk σ H1 fun zs H2 => r vs zs H2 Q) : tCKw r t tk σ H Q := h
theorem sqTS {K : PySem.W.Frag} {H H' : Hp} {a : Addr} {xs : List V} (f : Same H H') (h : SqT K H a xs) : SqT K H' a xs :=
  h.elim (fun r => .inl (r.elim (fun z => .inl (f _ _ z)) fun ⟨o, z⟩ => .inr ⟨o, f _ _ z⟩)) .inr
/-- [e for x in t], t a tuple of ints -/
theorem lcMapT {ns : List Int} {g : Int → Int} {K : PySem.W.Frag} {a : Addr} {i : Nat} {te : TE} {vs : List Nat} {σ : L2.St} {H : Hp} {Q : VK} {xs : List V} (hs : SqT K H a xs) (ex : xs = ns.map V.int) (hn : ns.length ≤ 1000)
    (hw : ∀ x, wipe ((wipe σ vs).set i (some x)) vs = wipe σ vs)
    (elem : ∀ x ∈ ns, ∀ H', Same H H' → ∀ R : VK, (∀ H'', Same H' H'' → R (.int (g x)) H'') → te ((wipe σ vs).set i (some (.int x))) H' R)
    (k : ∀ (p : Addr) (H' : Hp), H p = none → Same H H' → H' p = some (.lst ((ns.map g).map V.int)) → Q (.ref p) H') :
    (∃ xs, SqT K H a xs) ∧ ∀ D, H D = none → ∃ W : Nat → Nat → Hp → Prop, (∃ m, W 0 m (upd H D (.lst []))) ∧ ∀ t m H, W t m H →
      ((Itt K a).stop t H ∧ Q (.ref D) H) ∨ ((Itt K a).go t H ∧ ∃ Nx : Hp → Prop, (∀ H', Nx H' → ∃ m', m' < m ∧ W (t + 1) m' H') ∧ ∀ x H', (Itt K a).yld t H x H' → (gName i) x (wipe σ vs) H' fun σ2 H2 => wipe σ2 vs = wipe σ vs ∧ tYes σ2 H2 fun b H3 =>
        if b = true then te σ2 H3 fun y H4 => ∃ acc, H4 D = some (.lst acc) ∧ acc.length < sizeLine ∧ Nx (upd H4 D (.lst (acc ++ [y]))) else Nx H3) := by
  subst ex
  refine ⟨⟨_, hs⟩, fun D hD => lc_tup (xs := ns.map V.int) (fun t H' => Same H H' ∧ H' D = some (.lst (((ns.take t).map g).map V.int))) ⟨same_upd hD (Same.refl _), upd_same⟩ (fun t H' _ p => sqTS p.1 hs) (fun t x H' hx p => ?_) (fun H' p => ?_)⟩
  · obtain ⟨S, hl⟩ := p
    rw [List.getElem?_map] at hx
    cases e : ns[t]? with
    | none => rw [e] at hx; cases hx
    | some y =>
      rw [e] at hx
      cases hx
      have hy : y ∈ ns := List.mem_of_getElem? e
      have ht : t < ns.length := (List.getElem?_eq_some_iff.mp e).1
      refine ⟨hw _, iteT (B := Same H H' ∧ H' D = some (.lst (((ns.take (t + 1)).map g).map V.int))) rfl (elem y hy H' S _ fun H'' S' => ⟨_, S' _ _ hl, ?_, ?_, ?_⟩)⟩
      · rw [List.length_map, List.length_map, List.length_take]
        exact small1000 (by omega)
      · exact same_upd hD (S.trans S')
      · rw [upd_same, List.take_add_one, e]
        simp
  · obtain ⟨S, hl⟩ := p
    rw [List.length_map, List.take_length] at hl
    exact k D H' hD S hl
/-- [e for x in t + u], t and u pairs of ints -/
theorem lcCatI {a b c d : Int} {g : Int → Int} {K : PySem.W.Frag} {p q : Addr} {i j1 j2 : Nat} {te : TE} {vs : List Nat} {σ : L2.St} {H : Hp} {Q : VK} (e1 : σ[j1]? = some (some (.ref p))) (e2 : σ[j2]? = some (some (.ref q))) (hp : SqT K H p [.int a, .int b]) (hq : SqT K H q [.int c, .int d])
    (hw : ∀ x, wipe ((wipe σ vs).set i (some x)) vs = wipe σ vs)
    (elem : ∀ x ∈ [a, b, c, d], ∀ H', Same H H' → ∀ R : VK, (∀ H'', Same H' H'' → R (.int (g x)) H'') → te ((wipe σ vs).set i (some (.int x))) H' R)
    (k : ∀ (r : Addr) (H' : Hp), Same H H' → H' r = some (.lst (([a, b, c, d].map g).map V.int)) → Q (.ref r) H') : tLc (iTup K (tOp (rCatT K) (tVar j1) (tVar j2))) (gName i) tYes te vs σ H Q :=
  lc (it ⟨_, e1, _, e2, catP hp hq fun r hr => ⟨r, rfl, lcMapT (SqT.of (L2.upd_same)) rfl (by simp) hw (fun x hx H' S R kk => elem x hx H' (Same.trans (same_upd hr (Same.refl _)) S) R kk) fun r2 H' h2 S hl => k r2 H' (Same.trans (same_upd hr (Same.refl _)) S) hl⟩⟩)
theorem two {u v : V} {i : Nat} {x : V} (h : [u, v][i]? = some x) : x = u ∨ x = v := by
  rcases i with _ | _ | i
  · exact .inl (Option.some.inj h).symm
  · exact .inr (Option.some.inj h).symm
  · simp at h
theorem dp_b4 {K : PySem.W.Frag} {H : Hp} {p : Addr} {x y z w : Bool} (h : SqL K H p [.bl x, .bl y, .bl z, .bl w]) : Dp K H (.ref p) (.list [.bool x, .bool y, .bool z, .bool w]) := .lst h (.cons (.bl _) (.cons (.bl _) (.cons (.bl _) (.cons (.bl _) .nil))))
theorem shaped_b4 (x y z w : Bool) : SeqAt.shaped (.list [.bool x, .bool y, .bool z, .bool w]) = true := by
  simp only [SeqAt.shaped, PyData.canLay0, PyData.canLayAll0, PyData.depth, PyData.depthAll]
  rfl
theorem lessV (a b c d : Int) : (decide (a < c) || (decide (V.int a = V.int c) && decide (b < d))) = decide (a < c ∨ a = c ∧ b < d) := by
  rw [Bool.eq_iff_iff]
  simp
theorem told4 (a b c d : Int) : (!PyData.eqv (.list [.bool (decide (a < c ∨ a = c ∧ b < d)), .bool (decide (a < c ∨ a = c ∧ b ≤ d)), .bool (decide (c < a ∨ a = c ∧ d < b)), .bool (decide (c < a ∨ a = c ∧ d ≤ b))])
    (.list [.bool (decide (a < c ∨ a = c ∧ b < d)), .bool (decide (a < c ∨ a = c ∧ b < d) || PyData.eqv (.tuple [.int a, .int b]) (.tuple [.int c, .int d])), .bool (!decide (a < c ∨ a = c ∧ b < d) && !PyData.eqv (.tuple [.int a, .int b]) (.tuple [.int c, .int d])), .bool (!decide (a < c ∨ a = c ∧ b < d))])) = false := by
  have e : PyData.eqv (.tuple [.int a, .int b]) (.tuple [.int c, .int d]) = decide (a = c ∧ b = d) := by
    rw [eqv_pair, Bool.eq_iff_iff]
    simp
  have e1 : decide (a < c ∨ a = c ∧ b ≤ d) = (decide (a < c ∨ a = c ∧ b < d) || decide (a = c ∧ b = d)) := by
    rw [Bool.eq_iff_iff]
    simp only [Bool.or_eq_true, decide_eq_true_eq]
    omega
  have e2 : decide (c < a ∨ a = c ∧ d < b) = (!decide (a < c ∨ a = c ∧ b < d) && !decide (a = c ∧ b = d)) := by
    rw [Bool.eq_iff_iff]
    simp only [Bool.and_eq_true, Bool.not_eq_true', decide_eq_true_eq, decide_eq_false_iff_not]
    omega
  have e3 : decide (c < a ∨ a = c ∧ d ≤ b) = (!decide (a < c ∨ a = c ∧ b < d)) := by
    rw [Bool.eq_iff_iff]
    simp only [Bool.not_eq_true', decide_eq_true_eq, decide_eq_false_iff_not]
    omega
  rw [e, e1, e2, e3]
  simp [PyData.eqv, PyData.eqvAll]
theorem absB {x m : Int} (h : (if x < 0 then -x else x) ≤ m) : -m ≤ x ∧ x ≤ m := by
  split at h <;> omega
theorem ltAt {a b c d n m : Int} (hn : n = 1000000000 ∨ n = 1000000000000000000000000000000) (hm : m ≤ 1000000) (ha : -m ≤ a ∧ a ≤ m) (hb : -m ≤ b ∧ b ≤ m) (hc : -m ≤ c ∧ c ≤ m) (hd : -m ≤ d ∧ d ≤ m) : decide (a * n + b < c * n + d) = decide (a < c ∨ a = c ∧ b < d) := by
  rw [Bool.eq_iff_iff]
  simp only [decide_eq_true_eq]
  rcases hn with rfl | rfl <;> omega
theorem eqAt {a b c d n m : Int} (hn : n = 1000000000 ∨ n = 1000000000000000000000000000000) (hm : m ≤ 1000000) (ha : -m ≤ a ∧ a ≤ m) (hb : -m ≤ b ∧ b ≤ m) (hc : -m ≤ c ∧ c ≤ m) (hd : -m ≤ d ∧ d ≤ m) : decide (V.int (a * n + b) = V.int (c * n + d)) = (decide (V.int a = V.int c) && decide (V.int b = V.int d)) := by
  rw [Bool.eq_iff_iff]
  simp only [Bool.and_eq_true, decide_eq_true_eq, V.int.injEq]
  rcases hn with rfl | rfl <;> omega
end Rd
/-! ## max(xs, key=int) of a list of ints -/
namespace MxK
open PySem PySem.Spec PyProof.Rows L2
section
variable {prog : Program} {w : World} {A : Around} {E : Value → Shared → Prop} {s : Shared} {l I S : Addr} {vs : List Value} {ns : List Int} {Z : Result → Shared → Prop}
/-- what the walk keeps: the older objects, the best with its key in S, the walker's place in I -/
structure St (s : Shared) (l I S : Addr) (h : Heap) (j : Nat) (M : Int) (tv tb : Tok) : Prop where
  old : ∀ b o, s.heap.get? b = some o → h.get? b = some o
  sto : ∃ c, h.get? S = some (seqObj "list" #[.int M tv, .int M tb] c)
  itr : h.IsListIter I l j
theorem St.list {h : Heap} {j : Nat} {M : Int} {tv tb : Tok} (K : St s l I S h j M tv tb) (hl : s.heap.IsList l vs.toArray) : h.IsList l vs.toArray := by
  obtain ⟨o, e, r⟩ := hl
  exact ⟨o, K.old _ _ e, r⟩
theorem getD_of {ns : List Int} {i : Nat} {n : Int} (h : ns[i]? = some n) : ns.getD i 0 = n := by simp [h]
theorem item {i : Nat} {v : Value} (hi : IntsAre vs ns) (h : vs[i]? = some v) : ∃ t, v = .int (ns.getD i 0) t ∧ ns.getD i 0 ∈ ns := by
  have hlen := hi.length
  have h1 : i < vs.length := (List.getElem?_eq_some_iff.mp h).1
  have h2 : ns[i]? = some (ns[i]'(by omega)) := List.getElem?_eq_getElem (by omega)
  obtain ⟨t, ht⟩ := hi.get i _ h2
  rw [h] at ht
  cases ht
  exact ⟨t, by rw [getD_of h2], by rw [getD_of h2]; exact List.getElem_mem _⟩
theorem loop (hh : A.handled = none) (hl : s.heap.IsList l vs.toArray) (hi : IntsAre vs ns) (hlI : l ≠ I) (hSI : S ≠ I) (nS : s.heap.get? S = none) (nI : s.heap.get? I = none)
    (done : ∀ h' tk' M t, (∀ b o, s.heap.get? b = some o → h'.get? b = some o) → M ∈ ns → (∀ a ∈ ns, a ≤ M) → Z (.ok (.ret (.int M t))) { s with heap := h', toks := tk' }) :
    ∀ (r j : Nat) (h : Heap) (tk : Nat) (M : Int) (tv tb : Tok), vs.length - j = r → j ≤ vs.length → St s l I S h j M tv tb → M ∈ ns → (∀ i, i < j → ns.getD i 0 ≤ M) →
      codeAny (model prog w) A (.builtin "max.loop" ⟨[.ref I, .type "int", .ref S], []⟩) Z { s with heap := h, toks := tk } := by
  have nm : (toString "max" ++ toString ".loop" : String) = "max.loop" := by decide
  have Wk := Walks.list (prog := prog) (w := w) (A := A.in1) hh I l hlI vs.toArray
  have zs : vs.toArray.size = vs.length := List.size_toArray ..
  have hlen := hi.length
  intro r
  induction r with
  | zero =>
    intro j h tk M tv tb hr hj K hM hb
    have ej : j = vs.length := by omega
    obtain ⟨c, gS⟩ := K.sto
    refine codeAny_builtin PySem.F.entry_max_loop (?_ : _)
    rw [Around.under_plainId (PySem.F.plain_max_loop : _) _]
    show wpAny _ A.in1 (seqItems? (.ref S) >>= fun _ => _) _ _ _
    refine wpAny_bind (wpAny_seqItems gS rfl (?_ : _))
    show wpAny _ A.in1 (tryCatch (pyNext (.ref I)) _ >>= fun _ => _) _ _ _
    refine wpAny_bind (wpAny_tryCatch (Wk.done _ _ _ ⟨by rw [zs, ← ej]; exact K.itr, K.list hl⟩ fun h' tk' kept => ?_))
    have gS' := kept S _ (by simpa using hSI) gS
    have sb := Heap.SameBut.update h' S (Obj.mapSeq fun _ => (#[] : Array Value))
    show wpAny _ A.in1 (updateSeq S (fun _ => #[]) >>= fun _ => _) _ _ _
    refine wpAny_bind (wpAny_updateSeq gS' rfl (wpAny_bind (wpAny_letGo (wpAny_pure (done _ _ M tv (fun b o q => ?_) hM (fun a ha => ?_))))))
    · have nb : b ≠ S := fun z => by rw [z, nS] at q; cases q
      have ni : b ≠ I := fun z => by rw [z, nI] at q; cases q
      rw [sb.2 b nb]
      exact kept b o (by simpa using ni) (K.old b o q)
    · obtain ⟨i, hi1, rfl⟩ := List.getElem_of_mem ha
      have := hb i (by omega)
      rw [getD_of (List.getElem?_eq_getElem hi1)] at this
      exact this
  | succ r ih =>
    intro j h tk M tv tb hr hj K hM hb
    have lt : j < vs.length := by omega
    obtain ⟨c, gS⟩ := K.sto
    refine codeAny_builtin PySem.F.entry_max_loop (?_ : _)
    rw [Around.under_plainId (PySem.F.plain_max_loop : _) _]
    show wpAny _ A.in1 (seqItems? (.ref S) >>= fun _ => _) _ _ _
    refine wpAny_bind (wpAny_seqItems gS rfl (?_ : _))
    show wpAny _ A.in1 (tryCatch (pyNext (.ref I)) _ >>= fun _ => _) _ _ _
    refine wpAny_bind (wpAny_tryCatch (Wk.item j _ _ _ (by rw [zs]; exact lt) ⟨K.itr, K.list hl⟩ fun v h' tk' hP st kept => ?_))
    obtain ⟨t, rfl, hn⟩ := item hi (show vs[j]? = some v by simpa using hP)
    have gS' := kept S _ (by simpa using hSI) gS
    have K' : ∀ b o, s.heap.get? b = some o → h'.get? b = some o := fun b o q => by
      have ni : b ≠ I := fun z => by rw [z, nI] at q; cases q
      exact kept b o (by simpa using ni) (K.old b o q)
    have bN : ∀ x, M ≤ x → ns.getD j 0 ≤ x → ∀ i, i < j + 1 → ns.getD i 0 ≤ x := fun x h1 h2 i hi1 => by
      by_cases e : i = j
      · rw [e]; exact h2
      · exact Int.le_trans (hb i (by omega)) h1
    generalize hx : ns.getD j 0 = x at hn bN ⊢
    show wpAny _ A.in1 (tryCatch (holding [.int x t] (call (.type "int") [.int x t])) _ >>= fun _ => _) _ _ _
    refine wpAny_bind (wpAny_tryCatch (wpAny_holding (call_int_int ?_)))
    show wpAny _ A.in1 (tryCatch (holding [.int x t, .int x t] (richCompare .Gt (.int x t) (.int M tb) >>= fun _ => _)) _ >>= fun _ => _) _ _ _
    refine wpAny_bind (wpAny_tryCatch (wpAny_holding (wpAny_bind (PyProof.Rows.gt_int ?_))))
    refine wpAny_bind (wpAny_holding (wpAny_truthy_bool ?_))
    refine wpAny_bind (wpAny_letGo (wpAny_pure (?_ : _)))
    by_cases q : M < x
    · have sb := Heap.SameBut.update h' S (Obj.mapSeq fun _ => #[.int x t, .int x t])
      have gN : ∃ c2, (h'.update S (Obj.mapSeq fun _ => #[.int x t, .int x t])).get? S = some (seqObj "list" #[.int x t, .int x t] c2) := ⟨_, get?_update_seq gS' fun _ => #[.int x t, .int x t]⟩
      obtain ⟨oI, gI, oc, od⟩ := id st.1
      simp only [q, decide_true, if_true]
      refine wpAny_bind (wpAny_updateSeq gS' rfl (wpAny_bind (wpAny_letGo ?_)))
      rw [nm]
      refine wpAny_pure ⟨plainId_quiet (PySem.F.plain_max_loop : _) _, ih (j + 1) _ _ x t t (by omega) lt ⟨fun b o e => ?_, gN, ⟨oI, (sb.2 I hSI.symm).trans gI, oc, od⟩⟩ hn (bN x (by omega) (Int.le_refl _))⟩
      have nb : b ≠ S := fun z => by rw [z, nS] at e; cases e
      rw [sb.2 b nb]
      exact K' b o e
    · simp only [q, decide_false, Bool.false_eq_true, if_false]
      refine wpAny_bind (wpAny_letGo (?_ : _))
      rw [nm]
      exact wpAny_pure ⟨plainId_quiet (PySem.F.plain_max_loop : _) _, ih (j + 1) _ _ M tv tb (by omega) lt ⟨K', ⟨c, gS'⟩, st.1⟩ hM (bN M (Int.le_refl _) (by omega))⟩
theorem max_key_int {Q : Value → Shared → Prop} (hh : A.handled = none) (hl : s.heap.IsList l vs.toArray) (hi : IntsAre vs ns) (hne : 0 < ns.length)
    (k : ∀ h' tk' M t, (∀ b o, s.heap.get? b = some o → h'.get? b = some o) → M ∈ ns → (∀ a ∈ ns, a ≤ M) → Q (.int M t) { s with heap := h', toks := tk' }) :
    wpAny (model prog w) A (call (.builtin "max") [.ref l] [(Str.ofString "key", .type "int")]) Q E s := by
  have nm : (toString "max" ++ toString ".loop" : String) = "max.loop" := by decide
  obtain ⟨ol, el, _⟩ := id hl
  have hlen := hi.length
  have ll : l < s.heap.objs.size := Heap.lt_size el
  refine kmb_tree PySem.F.kind_max PySem.F.plain_max PySem.F.entry_max (kmb_max_key _ _) (?_ : _)
  show wpAny _ A.in1 (Builtin.Builtins.bindParams "max" ["key", "default"] 0 ⟨[], [(Str.ofString "key", .type "int")]⟩ >>= fun _ => _) _ _ s
  refine wpAny_bind (wpAny_of_eq (show Builtin.Builtins.bindParams "max" ["key", "default"] 0 ⟨[], [(Str.ofString "key", .type "int")]⟩ = pure [some (.type "int"), none] from rfl) (wpAny_bind (wpAny_pure ?_)))
  refine wpAny_bind (wpAny_pyIter_list hl (wpAny_bind (wpAny_newList ?_ (Nat.zero_le _))))
  rw [nm]
  generalize hG : s.heap.push { cls := .type "list_iterator", data := .fields #[.ref l, .int 0 0] } = G
  have gz : G.objs.size = s.heap.objs.size + 1 := by rw [← hG]; exact size_push' ..
  have gI0 : G.get? s.heap.objs.size = some { cls := .type "list_iterator", data := .fields #[.ref l, .int 0 0] } := by rw [← hG]; exact Heap.get?_push_size _ rfl
  have gI : (G.push (seqObj "list" #[] 0)).get? s.heap.objs.size = some { cls := .type "list_iterator", data := .fields #[.ref l, .int 0 0] } := Heap.get?_push_of_some _ gI0
  have gS : (G.push (seqObj "list" #[] 0)).get? G.objs.size = some (seqObj "list" #[] 0) := Heap.get?_push_size _ rfl
  have old : ∀ b o, s.heap.get? b = some o → (G.push (seqObj "list" #[] 0)).get? b = some o := fun b o e => by
    rw [← hG]
    exact Heap.get?_push_of_some _ (Heap.get?_push_of_some _ e)
  have hlI : l ≠ s.heap.objs.size := Nat.ne_of_lt ll
  have hSI : G.objs.size ≠ s.heap.objs.size := by omega
  have nI : s.heap.get? s.heap.objs.size = none := Heap.get?_none_of_le (Nat.le_refl _)
  have nS : s.heap.get? G.objs.size = none := Heap.get?_none_of_le (by omega)
  have Wk := Walks.list (prog := prog) (w := w) (A := A.in1) hh s.heap.objs.size l hlI vs.toArray
  have zs : vs.toArray.size = vs.length := List.size_toArray ..
  refine wpAny_pure ⟨plainId_quiet (PySem.F.plain_max_loop : _) _, codeAny_builtin PySem.F.entry_max_loop (?_ : _)⟩
  rw [Around.under_plainId (PySem.F.plain_max_loop : _) _]
  show wpAny _ A.in1 (seqItems? (.ref _) >>= fun _ => _) _ _ _
  refine wpAny_bind (wpAny_seqItems gS rfl (?_ : _))
  show wpAny _ A.in1 (tryCatch (pyNext (.ref s.heap.objs.size)) _ >>= fun _ => _) _ _ _
  have ol2 : (G.push (seqObj "list" #[] 0)).IsList l vs.toArray := by
    obtain ⟨o, e, z⟩ := id hl
    exact ⟨o, old _ _ e, z⟩
  refine wpAny_bind (wpAny_tryCatch (Wk.item 0 _ _ _ (by rw [zs]; omega) ⟨⟨_, gI, rfl, rfl⟩, ol2⟩ fun v h' tk' hP st kept => ?_))
  obtain ⟨t, rfl, hn⟩ := item hi (show vs[0]? = some v by simpa using hP)
  have gS' := kept _ _ (by simpa using hSI) gS
  generalize hx : ns.getD 0 0 = x at hn ⊢
  show wpAny _ A.in1 (tryCatch (holding [.int x t] (call (.type "int") [.int x t])) _ >>= fun _ => _) _ _ _
  refine wpAny_bind (wpAny_tryCatch (wpAny_holding (call_int_int ?_)))
  have sb := Heap.SameBut.update h' G.objs.size (Obj.mapSeq fun _ => #[.int x t, .int x t])
  have gN : ∃ c2, (h'.update G.objs.size (Obj.mapSeq fun _ => #[.int x t, .int x t])).get? G.objs.size = some (seqObj "list" #[.int x t, .int x t] c2) := ⟨_, get?_update_seq gS' fun _ => #[.int x t, .int x t]⟩
  obtain ⟨oI, gI', oc, od⟩ := id st.1
  show wpAny _ A.in1 (updateSeq G.objs.size (fun _ => #[.int x t, .int x t]) >>= fun _ => _) _ _ _
  refine wpAny_bind (wpAny_updateSeq gS' rfl (?_ : _))
  rw [nm]
  refine wpAny_pure ⟨plainId_quiet (PySem.F.plain_max_loop : _) _, loop hh hl hi hlI hSI nS nI (fun h2 tk2 M t2 q hM hb => k h2 tk2 M t2 q hM hb) _ 1 _ _ x t t rfl (by omega) ⟨fun b o e => ?_, gN, ⟨oI, (sb.2 _ hSI.symm).trans gI', oc, od⟩⟩ hn (fun i hi1 => ?_)⟩
  · have nb : b ≠ G.objs.size := fun z => by rw [z, nS] at e; cases e
    have ni : b ≠ s.heap.objs.size := fun z => by rw [z, nI] at e; cases e
    rw [sb.2 b nb]
    exact kept b o (by simpa using ni) (old b o e)
  · have e : i = 0 := by omega
    rw [e, hx]
    exact Int.le_refl _
end
def rMaxK (K : PySem.W.Frag) : List V → List V → Hp → VK → Prop := fun vs zs H Q => ∃ (a : Addr) (ns : List Int), vs = [V.ref a] ∧ zs = [.ty "int"] ∧ SqL K H a (ns.map V.int) ∧ 0 < ns.length ∧ ∀ m, m ∈ ns → (∀ y, y ∈ ns → y ≤ m) → Q (.int m) H
theorem ck_max {X : Cx} (hc : X.calm = true) : CallRK X (.builtin "max") ["key"] (rMaxK X.K) := by
  intro pins s σ H xs zs us ws Q I r r2 h
  obtain ⟨a, ns, rfl, rfl, hs, hne, q⟩ := h
  obtain ⟨its, rv, hl, _⟩ := I.list hs
  obtain ⟨u, rfl, ru⟩ := vals1 r2
  cases ru
  rw [Vals.ref1 r]
  exact max_key_int (I.ok.hd hc) hl.isList rv.ints hne fun h' tk m t' hk h1 h2 => ⟨.int _, H, I.kept hk, ⟨_, rfl⟩, q m h1 h2⟩
end MxK
/-! ## an object of a built-in type without the number's slot, left of an own instance -/
namespace Own
open PySem PySem.Spec PyProof.Rows
section
variable {prog : Program} {w : World} {A : Around} {E : Value → Shared → Prop} {s : Shared} {K : PySem.W.Frag} {x C dx f f0 : Addr} {od : Option Obj} {op : Operator} {T : String}
theorem binR0 {a : Value} {Q : Value → Shared → Prop} (KX : K.In s.heap) (I : PySem.W.InstAt s.heap x (PySem.W.instObj C dx) C od) (hc : PySem.W.selfFirst K C = true) (ta : PySem.W.Looks (model prog w) s.heap (typeOf a) (.type T))
    (h0 : PySem.W.findIn K (.ref C) (PySem.dunder op.info.2) = some (some (.ref f0))) (h1 : PySem.W.findIn K (.ref C) (dunderR op.info.2) = some (some (.ref f))) (hf : PySem.W.isFn K (.ref f) = true)
    (hfill : PySem.W.Looks (model prog w) s.heap (fillsNumberSlot (.type T) op.info.2) false)
    (h : wpAny (model prog w) A (call (.ref f) [.ref x, a]) (PySem.W.CmpBack Q) E s) : wpAny (model prog w) A (binaryOp op a (.ref x)) Q E s := by
  obtain ⟨cd, rest, hcd, hm⟩ := PySem.W.ksp_first hc
  rcases hi : op.info with ⟨sym, nm⟩
  rw [hi] at h0 h1 hfill
  dsimp only at h0 h1 hfill
  have two := PySem.W.ksp_try KX I h1 hf h
  obtain ⟨hh, g, d, tt, os⟩ := s
  have L1 : PySem.W.Looks (model prog w) hh (typeOf (.ref x)) (.ref C) := I.type
  have L3 : PySem.W.Looks (model prog w) hh (fillsNumberSlot (.ref C) nm) true := PySem.W.fills_K KX hcd hm h0
  have nc : (Value.type T == Value.ref C) = false := Bool.eq_false_iff.mpr fun q => nomatch beq_iff_eq.mp q
  simp only [binaryOp, hi]
  refine wpAny_holding (wpAny_bind (?_ : _))
  unfold binaryOp1
  refine wpAny_bind (ta.at (wpAny_bind (L1.at (wpAny_bind (hfill.at ?_)))))
  simp only [nc, Bool.false_eq_true, if_false]
  refine wpAny_bind (L3.at (?_ : _))
  simp only [Bool.false_and, Bool.false_eq_true, if_false, pure_bind, Bool.not_false, Bool.and_self, if_true]
  refine wpAny_bind (wpAny_mono two (fun r s' q => ?_) fun _ _ e => e)
  obtain ⟨v, rfl, q⟩ := q
  exact wpAny_bind (wpAny_rule (wpAny_pure (wpAny_pure q)))
end
end Own
namespace Own
open PySem PySem.Spec PyProof.Rows L2
section
variable {prog : Program} {w : World} {A : Around} {E : Value → Shared → Prop} {s : Shared} {K : PySem.W.Frag} {x C dx f f0 : Addr} {od : Option Obj} {op : Operator} {T : String}
theorem binT0 {b : Value} {Q : Value → Shared → Prop} (KX : K.In s.heap) (I : PySem.W.InstAt s.heap x (PySem.W.instObj C dx) C od) (hc : PySem.W.selfFirst K C = true) (tb : PySem.W.Looks (model prog w) s.heap (typeOf b) (.type T))
    (h0 : PySem.W.findIn K (.ref C) (PySem.dunder op.info.2) = some (some (.ref f))) (hf : PySem.W.isFn K (.ref f) = true) (hfill : PySem.W.Looks (model prog w) s.heap (fillsNumberSlot (.type T) op.info.2) false)
    (h : wpAny (model prog w) A (call (.ref f) [.ref x, b]) (PySem.W.CmpBack Q) E s) : wpAny (model prog w) A (binaryOp op (.ref x) b) Q E s := by
  obtain ⟨cd, rest, hcd, hm⟩ := PySem.W.ksp_first hc
  rcases hi : op.info with ⟨sym, nm⟩
  rw [hi] at h0 hfill
  dsimp only at h0 hfill
  have one := PySem.W.ksp_try KX I h0 hf h
  obtain ⟨hh, g, d, tt, os⟩ := s
  have L1 : PySem.W.Looks (model prog w) hh (typeOf (.ref x)) (.ref C) := I.type
  have L3 : PySem.W.Looks (model prog w) hh (fillsNumberSlot (.ref C) nm) true := PySem.W.fills_K KX hcd hm h0
  have nc : (Value.ref C == Value.type T) = false := Bool.eq_false_iff.mpr fun q => nomatch beq_iff_eq.mp q
  simp only [binaryOp, hi]
  refine wpAny_holding (wpAny_bind (?_ : _))
  unfold binaryOp1
  refine wpAny_bind (L1.at (wpAny_bind (tb.at (wpAny_bind (L3.at (?_ : _))))))
  simp only [nc, Bool.false_eq_true, if_false]
  refine wpAny_bind (hfill.at (?_ : _))
  simp only [Bool.and_false, Bool.false_and, Bool.false_eq_true, if_false, pure_bind, Bool.not_false, Bool.and_self, if_true]
  refine wpAny_bind (wpAny_mono one (fun r s' q => ?_) fun _ _ e => e)
  obtain ⟨v, rfl, q⟩ := q
  exact wpAny_pure (wpAny_pure q)
end
section
variable {X : Cx} {CX : CXT} {k : Nat} {f C : Addr} {fd : FuncData} {ps : List Str} {sp : Sp} {E : XK} {op : Operator} {Ts : List String}
/-- built-in types that have no number's slot -/
structure NoSlot (K : PySem.W.Frag) (op : Operator) (T : String) : Prop where
  l : ∃ fo ro, PySem.W.findIn K (.type T) (PySem.dunder op.info.2) = some fo ∧ PySem.W.findIn K (.type T) (dunderR op.info.2) = some ro ∧ ((fo.isSome && !isSeqSlot fo) || (ro.isSome && !isSeqSlot ro)) = false
theorem NoSlot.fills {K : PySem.W.Frag} {T : String} {M : Model} {h : Heap} (Z : NoSlot K op T) (KX : K.In h) : PySem.W.Looks M h (fillsNumberSlot (.type T) op.info.2) false := by
  obtain ⟨fo, ro, h1, h2, e⟩ := Z.l
  have z := PySem.W.ksp_fillsT (M := M) KX h1 h2
  rw [e] at z
  exact z
/-- any object of such a type left of an own instance: the reflected operator is asked -/
def rOddL (K : PySem.W.Frag) (C : Addr) (Ts : List String) (sp : Sp) (E : XK) : R2 := fun x y H Q => ∃ a dx fs T, y = .ref a ∧ H a = some (.ins C dx fs) ∧ T ∈ Ts ∧ TyX K H x (.type T) ∧ sp [.ref a, x] H Q E
theorem opL0 (F : FnOk X.prog X.w X.K X.mg X.base CX k f fd ps sp) (hr : Room k X.A) (Z : BinR X.K C f op) (N : ∀ T ∈ Ts, NoSlot X.K op T) (hb : Binds X.K fd ps []) (hx : Passes CX X E) : OpR X (binaryOp op) (rOddL X.K C Ts sp E) := by
  rintro pins s σ H x y u v Q I rx ry ⟨a, dx, fs, T, rfl, ha, hT, ty, q⟩
  cases ry
  obtain ⟨od, J⟩ := inst I ha
  obtain ⟨z1, ⟨f0, z2⟩, z3, z4, z5⟩ := Z
  exact binR0 I.kIn J z1 (typed I rx ty) z2 z3 z4 ((N T hT).fills I.kIn) (back (run2 (x := .ref a) F hr hb hx I rfl rx q))
/-- any object of such a type right of an own instance -/
def rOddR (K : PySem.W.Frag) (C : Addr) (Ts : List String) (sp : Sp) (E : XK) : R2 := fun x y H Q => ∃ a dx fs T, x = .ref a ∧ H a = some (.ins C dx fs) ∧ T ∈ Ts ∧ TyX K H y (.type T) ∧ sp [.ref a, y] H Q E
theorem opR0 (F : FnOk X.prog X.w X.K X.mg X.base CX k f fd ps sp) (hr : Room k X.A) (B : Bin X.K C f op) (N : ∀ T ∈ Ts, NoSlot X.K op T) (hb : Binds X.K fd ps []) (hx : Passes CX X E) : OpR X (binaryOp op) (rOddR X.K C Ts sp E) := by
  rintro pins s σ H x y u v Q I rx ry ⟨a, dx, fs, T, rfl, ha, hT, ty, q⟩
  cases rx
  obtain ⟨od, J⟩ := inst I ha
  exact binT0 I.kIn J B.first (typed I ry ty) B.at_ B.fn ((N T hT).fills I.kIn) (back (run2 (x := .ref a) F hr hb hx I rfl ry q))
end
end Own
namespace Own
open PySem PySem.Spec PyProof.Rows
section
variable {prog : Program} {w : World} {A : Around} {E : Value → Shared → Prop} {s : Shared} {K : PySem.W.Frag} {x C dx f f0 : Addr} {od : Option Obj} {op : Operator} {id : String}
theorem declB_add {b : Bool} {Q : Shared → Prop} (h : s.heap.get? x = some (PySem.W.instObj C dx)) (hq : Q s) :
    wpAny (model prog w) A (Builtin.«int.__add__» ⟨[.bool b, .ref x], []⟩) (fun fin s' => ∃ v, fin = .done (.ret v) ∧ v = .notImplemented ∧ Q s') E s := by
  obtain ⟨hp, g, d, tk, os⟩ := s
  wp_walk using wpAny_load h
  exact ⟨_, rfl, rfl, hq⟩
theorem declB_sub {b : Bool} {Q : Shared → Prop} (h : s.heap.get? x = some (PySem.W.instObj C dx)) (hq : Q s) :
    wpAny (model prog w) A (Builtin.«int.__sub__» ⟨[.bool b, .ref x], []⟩) (fun fin s' => ∃ v, fin = .done (.ret v) ∧ v = .notImplemented ∧ Q s') E s := by
  obtain ⟨hp, g, d, tk, os⟩ := s
  wp_walk using wpAny_load h
  exact ⟨_, rfl, rfl, hq⟩
theorem declB_mul {b : Bool} {Q : Shared → Prop} (h : s.heap.get? x = some (PySem.W.instObj C dx)) (hq : Q s) :
    wpAny (model prog w) A (Builtin.«int.__mul__» ⟨[.bool b, .ref x], []⟩) (fun fin s' => ∃ v, fin = .done (.ret v) ∧ v = .notImplemented ∧ Q s') E s := by
  obtain ⟨hp, g, d, tk, os⟩ := s
  wp_walk using wpAny_load h
  exact ⟨_, rfl, rfl, hq⟩
theorem slotB_add : Slot "bool" "__add__" "int.__add__" :=
  .of (T := "bool") (name := "__add__") (owner := "int") (n := "__add__") (by rw [typeLookup_type, builtinLookup_eq_fast]; kernel_rfl) (by decide +kernel) (by decide +kernel) (by decide +kernel) (.inl (by decide +kernel)) (by rw [isSubtype_type]; kernel_rfl)
theorem slotB_sub : Slot "bool" "__sub__" "int.__sub__" :=
  .of (T := "bool") (name := "__sub__") (owner := "int") (n := "__sub__") (by rw [typeLookup_type, builtinLookup_eq_fast]; kernel_rfl) (by decide +kernel) (by decide +kernel) (by decide +kernel) (.inl (by decide +kernel)) (by rw [isSubtype_type]; kernel_rfl)
theorem slotB_mul : Slot "bool" "__mul__" "int.__mul__" :=
  .of (T := "bool") (name := "__mul__") (owner := "int") (n := "__mul__") (by rw [typeLookup_type, builtinLookup_eq_fast]; kernel_rfl) (by decide +kernel) (by decide +kernel) (by decide +kernel) (.inl (by decide +kernel)) (by rw [isSubtype_type]; kernel_rfl)
end
end Own
namespace Own
open PySem PySem.Spec PyProof.Rows
section
variable {prog : Program} {w : World} {A : Around} {E : Value → Shared → Prop} {s : Shared} {K : PySem.W.Frag} {x C dx f f0 : Addr} {od : Option Obj} {op : Operator} {id : String}
/-- a truth declines an operator beside an instance, then the instance's reflected one is asked -/
theorem binRB {p : Bool} {Q : Value → Shared → Prop} (KX : K.In s.heap) (I : PySem.W.InstAt s.heap x (PySem.W.instObj C dx) C od) (hc : PySem.W.selfFirst K C = true)
    (h0 : PySem.W.findIn K (.ref C) (PySem.dunder op.info.2) = some (some (.ref f0))) (h1 : PySem.W.findIn K (.ref C) (dunderR op.info.2) = some (some (.ref f))) (hf : PySem.W.isFn K (.ref f) = true)
    (hsub : PySem.W.subIn K (.ref C) (.type "bool") = some false) (hfill : fillsNumberSlot (.type "bool") op.info.2 = pure true) (slot : Slot "bool" (PySem.dunder op.info.2) id)
    (decl : wpAny (model prog w) A (call (.builtin id) [.bool p, .ref x]) (fun v s' => v = .notImplemented ∧ s'.heap = s.heap ∧ s'.gens = s.gens ∧ s'.drawn = s.drawn ∧ s'.os = s.os ∧ s'.toks = s.toks) E s)
    (h : wpAny (model prog w) A (call (.ref f) [.ref x, .bool p]) (PySem.W.CmpBack Q) E s) : wpAny (model prog w) A (binaryOp op (.bool p) (.ref x)) Q E s := by
  obtain ⟨cd, rest, hcd, hm⟩ := PySem.W.ksp_first hc
  rcases hi : op.info with ⟨sym, nm⟩
  rw [hi] at h0 h1 hfill slot
  dsimp only at h0 h1 hfill slot
  have two := PySem.W.ksp_try KX I h1 hf h
  obtain ⟨hh, g, d, tt, os⟩ := s
  have L1 : PySem.W.Looks (model prog w) hh (typeOf (.ref x)) (.ref C) := I.type
  have L3 : PySem.W.Looks (model prog w) hh (fillsNumberSlot (.ref C) nm) true := PySem.W.fills_K KX hcd hm h0
  have L5 : PySem.W.Looks (model prog w) hh (isSubtype (.ref C) (.type "bool")) false := PySem.W.looks_subIn KX hsub
  have hne : (Value.type "bool" == Value.ref C) = false := Bool.eq_false_iff.mpr fun q => by cases beq_iff_eq.mp q
  have hpy : numberSlotInPython (.type "bool") nm = pure false := rfl
  have one : wpAny (model prog w) A (tryMethod (.bool p) (PySem.dunder nm) (.ref x)) (fun r s' => r = none ∧ s'.heap = hh ∧ s'.gens = g ∧ s'.drawn = d ∧ s'.os = os ∧ s'.toks = tt) E ⟨hh, g, d, tt, os⟩ :=
    wpAny_tryMethod_declines (T := "bool") (typeIs_bool' _ p) slot (wpAny_mono decl (fun v s' q => ⟨q.1, rfl, q.2⟩) fun _ _ e => e)
  simp only [binaryOp, hi]
  refine wpAny_holding (wpAny_bind ?_)
  unfold binaryOp1
  refine wpAny_bind (wpAny_typeOf (typeIs_bool' _ p) (wpAny_bind (L1.at (wpAny_bind (wpAny_of_eq hfill ?_)))))
  simp only [hne, Bool.false_eq_true, if_false]
  refine wpAny_bind (L3.at ?_)
  simp only [Bool.and_self, if_true]
  refine wpAny_bind (L5.at ?_)
  simp only [Bool.false_eq_true, if_false, pure_bind, Bool.not_false, Bool.and_self, if_true, hpy]
  refine wpAny_bind (wpAny_mono one (fun r s' q => ?_) fun _ _ e => e)
  obtain ⟨h1, g1, d1, t1, o1⟩ := s'
  obtain ⟨rfl, q1, q2, q3, q4, q5⟩ := q
  dsimp only at q1 q2 q3 q4 q5
  subst q1 q2 q3 q4 q5
  dsimp only
  refine wpAny_bind (wpAny_mono two (fun r s' q => ?_) fun _ _ e => e)
  obtain ⟨v, rfl, q⟩ := q
  exact wpAny_bind (wpAny_rule (wpAny_pure (wpAny_pure q)))
end
end Own
namespace Own
open PySem PySem.Spec PyProof.Rows L2
section
variable {X : Cx} {CX : CXT} {k : Nat} {f C : Addr} {fd : FuncData} {ps : List Str} {sp : Sp} {E : XK} {op : Operator}
def rRightB (C : Addr) (sp : Sp) (E : XK) : R2 := fun x y H Q => ∃ i a dx fs, x = .bl i ∧ y = .ref a ∧ H a = some (.ins C dx fs) ∧ sp [.ref a, .bl i] H Q E
theorem opRB_of {id : String} {B : Builtin} (hfill : fillsNumberSlot (.type "bool") op.info.2 = pure true) (slot : Slot "bool" (PySem.dunder op.info.2) id) (entry : entryFor table id = some B) (args : ∀ a b : Value, argsOk id ⟨[a, b], []⟩)
    (decl : ∀ {prog : Program} {w : World} {A : Around} {E : Value → Shared → Prop} {s : Shared} {x C dx : Addr} {p : Bool} {Q : Shared → Prop}, s.heap.get? x = some (PySem.W.instObj C dx) → Q s →
      wpAny (model prog w) A (B ⟨[.bool p, .ref x], []⟩) (fun fin s' => ∃ v, fin = .done (.ret v) ∧ v = .notImplemented ∧ Q s') E s)
    (F : FnOk X.prog X.w X.K X.mg X.base CX k f fd ps sp) (hr : Room k X.A) (Z : BinR X.K C f op) (zb : PySem.W.subIn X.K (.ref C) (.type "bool") = some false) (hb : Binds X.K fd ps []) (hx : Passes CX X E) : OpR X (binaryOp op) (rRightB C sp E) := by
  rintro pins s σ H x y u v Q I rx ry ⟨i, a, dx, fs, rfl, rfl, ha, q⟩
  cases (show u = Value.bool i from rx)
  cases ry
  obtain ⟨od, J⟩ := inst I ha
  obtain ⟨z1, ⟨f0, z2⟩, z3, z4, z5⟩ := Z
  exact binRB I.kIn J z1 z2 z3 z4 zb hfill slot (wpAny_call_entry slot (typeIs_bool' s i) entry (wpAny_mono (decl (Q := fun s' => s'.heap = s.heap ∧ s'.gens = s.gens ∧ s'.drawn = s.drawn ∧ s'.os = s.os ∧ s'.toks = s.toks) J.at_ ⟨rfl, rfl, rfl, rfl, rfl⟩) (fun fin s' ⟨v, e, q⟩ => ⟨v, e, q⟩) fun _ _ e => e) (args _ _))
    (back (run2 (x := .ref a) (y := .bl i) F hr hb hx I rfl rfl q))
theorem opRBadd (F : FnOk X.prog X.w X.K X.mg X.base CX k f fd ps sp) (hr : Room k X.A) (Z : BinR X.K C f .Add) (zb : PySem.W.subIn X.K (.ref C) (.type "bool") = some false) (hb : Binds X.K fd ps []) (hx : Passes CX X E) : OpR X (binaryOp .Add) (rRightB C sp E) :=
  opRB_of PySem.F.fills_bool_add slotB_add PySem.F.entry_int_add PySem.F.args_int_add_2 declB_add F hr Z zb hb hx
theorem opRBsub (F : FnOk X.prog X.w X.K X.mg X.base CX k f fd ps sp) (hr : Room k X.A) (Z : BinR X.K C f .Sub) (zb : PySem.W.subIn X.K (.ref C) (.type "bool") = some false) (hb : Binds X.K fd ps []) (hx : Passes CX X E) : OpR X (binaryOp .Sub) (rRightB C sp E) :=
  opRB_of PySem.F.fills_bool_sub slotB_sub PySem.F.entry_int_sub PySem.F.args_int_sub_2 declB_sub F hr Z zb hb hx
theorem opRBmul (F : FnOk X.prog X.w X.K X.mg X.base CX k f fd ps sp) (hr : Room k X.A) (Z : BinR X.K C f .Mult) (zb : PySem.W.subIn X.K (.ref C) (.type "bool") = some false) (hb : Binds X.K fd ps []) (hx : Passes CX X E) : OpR X (binaryOp .Mult) (rRightB C sp E) :=
  opRB_of PySem.F.fills_bool_mul slotB_mul PySem.F.entry_int_mul PySem.F.args_int_mul_2 declB_mul F hr Z zb hb hx
end
end Own
/-! ## [x for x, b in zip(xs, bs) if b], bs a list of truths -/
namespace Rd
open PySem PySem.Spec PyProof.Rows L2
theorem wipe2 {σ : L2.St} {i j : Nat} {a b : Option V} (h : i ≠ j) : wipe (((wipe σ [i, j]).set i a).set j b) [i, j] = wipe σ [i, j] := by
  show (((((σ.set j none).set i none).set i a).set j b).set j none).set i none = (σ.set j none).set i none
  rw [List.set_set, List.set_set, List.set_comm _ _ h, List.set_set, List.set_set]
theorem lcZip {names : List V} {bs : List Bool} {K : PySem.W.Frag} {a b : Addr} {i1 i2 j1 j2 : Nat} {σ : L2.St} {H : Hp} {Q : VK} (hl : names.length = bs.length) (hn : names.length ≤ 1000) (e1 : σ[j1]? = some (some (.ref a))) (e2 : σ[j2]? = some (some (.ref b)))
    (h1 : SqL K H a names) {ws : List V} (h2' : SqL K H b ws) (ew : ws = bs.map V.bl)
    (hij : i1 ≠ i2) (li : i1 < σ.length) (lj : i2 < σ.length)
    (k : ∀ (p : Addr) (H' : Hp), H p = none → Same H H' → H' p = some (.lst (((names.zip bs).filter (·.2)).map (·.1))) → Q (.ref p) H') :
    tLc (iZip K (tCons (tVar j1) (tCons (tVar j2) tNil))) (gTup K 2 (gCons (gName i1) (gCons (gName i2) gNil))) (tB (tVar i2)) (tVar i1) [i1, i2] σ H Q := by
  subst ew
  have h2 := h2'
  have hw : ∀ x y, wipe (((wipe σ [i1, i2]).set i1 (some x)).set i2 (some y)) [i1, i2] = wipe σ [i1, i2] := fun x y => wipe2 hij
  have g1 : ∀ x y, (((wipe σ [i1, i2]).set i1 (some x)).set i2 (some y))[i1]? = some (some x) := fun x y => by
    rw [List.getElem?_set_ne (Ne.symm hij), List.getElem?_set_self (by rw [wipe_length]; exact li)]
  have g2 : ∀ x y, (((wipe σ [i1, i2]).set i1 (some x)).set i2 (some y))[i2]? = some (some y) := fun x y => by
    rw [List.getElem?_set_self (by rw [List.length_set, wipe_length]; exact lj)]
  refine lc ⟨_, e1, _, e2, a, b, _, _, rfl, h1, h2, fun D hD => lc_it (walk_zip (n := names.length) (by rw [List.length_map, ← hl, Nat.min_self])) (fun t H' => Same H H' ∧ H' D = some (.lst ((((names.zip bs).take t).filter (·.2)).map (·.1)))) ⟨same_upd hD (Same.refl _), upd_same⟩
    (fun t H' _ p => ⟨p.1.seq h1, p.1.seq h2⟩) (fun t v H0 H' ht p y => ?_) (fun H' p => ?_)⟩
  · obtain ⟨S, hd⟩ := p
    obtain ⟨T, x, y, rfl, hT, rfl, hx, hy⟩ := y
    dsimp only at hx hy
    have htb : t < bs.length := by omega
    have ey : y = .bl bs[t] := by
      rw [List.getElem?_map, List.getElem?_eq_getElem htb] at hy
      exact (Option.some.inj hy).symm
    subst ey
    have ex : names[t] = x := by
      rw [List.getElem?_eq_getElem ht] at hx
      exact Option.some.inj hx
    have nd : D ≠ T := ne_of_none hd hT
    have S' : Same H (upd H0 T (.tup [x, .bl bs[t]])) := same_upd (Same.free S hT) S
    have hd' : upd H0 T (.tup [x, .bl bs[t]]) D = some (.lst ((((names.zip bs).take t).filter (·.2)).map (·.1))) := by rw [upd_ne nd]; exact hd
    have tk : (names.zip bs).take (t + 1) = (names.zip bs).take t ++ [(x, bs[t])] := by
      rw [List.take_add_one, List.getElem?_eq_getElem (by rw [List.length_zip]; omega), List.getElem_zip, ex]
      rfl
    refine gtup (SqT.of upd_same) rfl (gcons (name (gcons (name (gnil ⟨hw _ _, tb (var (g2 _ _) (bl ?_))⟩)))))
    cases hb : bs[t] with
    | true =>
      rw [hb] at hd' S' tk
      refine iteT rfl (var (g1 _ _) ⟨_, hd', ?_, same_upd hD S', ?_⟩)
      · rw [List.length_map]
        refine small1000 (Nat.le_trans (List.length_filter_le _ _) ?_)
        rw [List.length_take, List.length_zip]
        omega
      · rw [upd_same, tk, List.filter_append, List.map_append]
        rfl
    | false =>
      rw [hb] at hd' S' tk
      refine iteF rfl ⟨S', ?_⟩
      rw [hd', tk, List.filter_append, List.map_append]
      simp
  · obtain ⟨S, hd⟩ := p
    rw [List.take_of_length_le (by rw [List.length_zip]; omega)] at hd
    exact k D H' hD S hd
end Rd
/-! ## isinstance of a caught error whatever its class; a call of a def that a name holds, whatever it is -/
namespace Ex2
open PySem PySem.Spec PyProof.Rows L2
def rIsE2 (K : PySem.W.Frag) (cls : Value) (d : Option Addr) (a : Addr) : List V → Hp → VK → Prop := fun xs H Q => ∃ D, cls = .ref D ∧ d = none ∧ ExcC K D ∧ rIsE K D a xs H Q
theorem call_isE2 {X : Cx} {K : PySem.W.Frag} (eK : X.K = K) {a : Addr} {cls : Value} {d : Option Addr} {oe : Obj} {pn : List (Addr × Obj)} (hz : Zc cls d oe) (hf : ∃ vs, oe.data = .fields vs) : CallR (X.suite a ((a, oe) :: pn)) (.builtin "isinstance") (rIsE2 K cls d a) := by
  subst eK
  rintro pins s σ H xs us Q I r ⟨D, rfl, rfl, C, q⟩
  exact call_isE C hz hf pins s σ H xs us Q I r q
/-- a def at f keeps sp, and may let errors out as sp says -/
structure HeldX (P : Program) (w : World) (K : PySem.W.Frag) (mg : Str → Option Value) (base : Heap) (k : Nat) (f : Addr) (sp : Sp) : Prop where
  ex : ∃ (j : Nat) (fd : FuncData) (ps : List Str), j ≤ k ∧ FnOk P w K mg base (L2.CX P w) j f fd ps sp ∧ PySem.W.keepIn K (.ref f) = true ∧ Binds K fd ps []
def tCallX (P : Program) (w : World) (K : PySem.W.Frag) (mg : Str → Option Value) (base : Heap) (k i : Nat) (E : L2.St → XK) (t : TA) : TE := fun σ H Q => ∃ f sp, HeldX P w K mg base k f sp ∧ σ[i]? = some (some (.ref f)) ∧ t σ H fun vs H1 => sp vs H1 Q (E σ)
section
variable {X : Cx} {k i : Nat} {E : L2.St → XK} {x : Str} {p pos : Pos} {e : Expr} {es : List Expr} {t : TA}
theorem pe_callX {P : Program} {w : World} {K : PySem.W.Frag} {mg : Str → Option Value} {base : Heap} (e1 : X.prog = P) (e2 : X.w = w) (e3 : X.K = K) (e4 : X.mg = mg) (e5 : X.base = base) (hr : Room k X.A) (hN : X.N[i]? = some x) (hv : Vis X.env.scope x) (hx : ∀ σ, PassesAt (L2.CX X.prog X.w) X σ (E σ)) (ha : PA X (e :: es) t)
    (h1 : (x == ("__debug__" : Str)) = false := by decide) (h2 : (x == ("__classdict__" : Str)) = false := by decide) (h3 : starEach (e :: es) X.env = (false, eval e X.env) :: starEach es X.env := by rfl) (h4 : (backTo pos (starEach es X.env)).any (·.1) = false := by rfl) :
    PE X (.Call (.Name x p) (e :: es) [] pos) (tCallX P w K mg base k i E t) := by
  subst e1 e2 e3 e4 e5
  refine ⟨fun pins s σ H Q I ⟨f, sp, ⟨⟨j, fd, ps, hj, F, kp, bd⟩⟩, at_, rest⟩ => ?_⟩
  refine wpAny_Call_Name_kw (thn ((pe_var (pos := p) hN hv h1 h2).run pins s σ H (fun w1 Hq => w1 = .ref f ∧ Hq = H) I ⟨.ref f, at_, rfl, rfl⟩) fun u s1 ⟨w1, Hq, I1, r1, ⟨e1, e2⟩⟩ => ?_)
  subst e1 e2
  cases r1
  exact PySem.W.callWith_K (h₀ := X.base) I.ok.mod.kin kp (thn (ha.run pos pins s1 σ _ _ I1 rest) fun us s2 ⟨vs, H2, I2, r, q⟩ => ⟨I2.kIn, run_fnS F (hr.mono hj) bd (hx σ) I2 r q⟩) h3 h4
end
end Ex2
/-! ## objects that are no integers; loops over written lists; one item of a list of anything -/
namespace Rd
open PySem PySem.Spec PyProof.Rows L2
def TS1 : List String := ["NoneType", "tuple", "list", "dict"]
/-- an address is marked as the source's -/
def IsSrc (_ : Addr) : Prop := True
def TS0 : List String := ["NoneType", "str", "tuple", "list", "dict"]
/-- none, a text, a tuple, a list of another length than two, a dict -/
inductive OddN (H : Hp) : V → Prop where
  | non : OddN H .non
  | str (x : Str) : OddN H (.str x)
  | tup {p : Addr} {xs : List V} (e : H p = some (.tup xs)) : OddN H (.ref p)
  | lst {p : Addr} {xs : List V} (e : H p = some (.lst xs)) (n : xs.length ≠ 2) : OddN H (.ref p)
  | dK {p : Addr} {kvs : List (Key × V)} (e : H p = some (.dK kvs)) : OddN H (.ref p)
theorem OddN.ty {K : PySem.W.Frag} {H : Hp} {v : V} : OddN H v → ∃ T, T ∈ TS0 ∧ TyX K H v (.type T)
  | .non => ⟨_, by decide, .base .non⟩
  | .str x => ⟨_, by decide, .base (.str x)⟩
  | .tup e => ⟨_, by decide, .base (.tup e)⟩
  | .lst e _ => ⟨_, by decide, .base (.lst e)⟩
  | .dK e => ⟨_, by decide, .base (.dK e)⟩
theorem OddN.same {H H' : Hp} {v : V} (S : Same H H') : OddN H v → OddN H' v
  | .non => .non
  | .str x => .str x
  | .tup e => .tup (S _ _ e)
  | .lst e n => .lst (S _ _ e) n
  | .dK e => .dK (S _ _ e)
theorem OddN.ty1 {K : PySem.W.Frag} {H : Hp} {v : V} : OddN H v → (∃ x, v = .str x) ∨ ∃ T, T ∈ TS1 ∧ TyX K H v (.type T)
  | .non => .inr ⟨_, by decide, .base .non⟩
  | .str x => .inl ⟨_, rfl⟩
  | .tup e => .inr ⟨_, by decide, .base (.tup e)⟩
  | .lst e _ => .inr ⟨_, by decide, .base (.lst e)⟩
  | .dK e => .inr ⟨_, by decide, .base (.dK e)⟩
theorem OddN.new {H : Hp} {v : V} {p : Addr} {o : HO} (n : H p = none) (h : OddN H v) : OddN (upd H p o) v := h.same fun b u e => by
  rw [upd_ne (ne_of_none e n)]; exact e
theorem OddN.two {H : Hp} {v : V} {a : Addr} {x y : V} {o : HO} (e : H a = some (.lst [x, y])) (h : OddN H v) : OddN (upd H a o) v := by
  cases h with
  | non => exact .non
  | str x => exact .str x
  | tup q => exact .tup (by rw [upd_ne (ne_of q e (by intro z; cases z))]; exact q)
  | lst q n => exact .lst (by rw [upd_ne (ne_of q e (by intro z; cases z; exact n rfl))]; exact q) n
  | dK q => exact .dK (by rw [upd_ne (ne_of q e (by intro z; cases z))]; exact q)
theorem tyof_same {K : PySem.W.Frag} {H H' : Hp} {y : V} {t : Value} (S : Same H H') (h : TyOf K H y t) : TyOf K H' y t := by
  cases h with
  | non => exact .non
  | bl x => exact .bl x
  | int x => exact .int x
  | str x => exact .str x
  | flt x => exact .flt x
  | lst e => exact .lst (S _ _ e)
  | frz e => exact .frz (S _ _ e)
  | tup e => exact .tup (S _ _ e)
  | dK e => exact .dK (S _ _ e)
  | dT e => exact .dT (S _ _ e)
  | ins e c a n k m => exact .ins (S _ _ e) c a n k m
theorem tyx_same {K : PySem.W.Frag} {H H' : Hp} {y : V} {t : Value} (S : Same H H') (h : TyX K H y t) : TyX K H' y t := by
  cases h with
  | base b => exact .base (tyof_same S b)
  | byt b => exact .byt b
  | set e => exact .set (S _ _ e)
  | kList e c => exact .kList e c
  | kTuple e c => exact .kTuple e c
  | kDict e c => exact .kDict e c
  | fTuple e => exact .fTuple (S _ _ e)
  | fDict e => exact .fDict (S _ _ e)
theorem kit_TS_int {K : PySem.W.Frag} : ∀ T ∈ TS0, PySem.W.kitOne K (.type T) (.type "int") = some false := by
  intro T h
  simp only [TS0, List.mem_cons, List.not_mem_nil, or_false] at h
  rcases h with rfl | rfl | rfl | rfl | rfl
  exact kit_none_int
  exact kit_str_int
  exact kit_tuple_int
  exact kit_list_int
  exact kit_dict_int
/-- .. or a truth -/
def OddV (H : Hp) (v : V) : Prop := OddN H v ∨ ∃ b, v = .bl b
theorem OddV.same {H H' : Hp} {v : V} (S : Same H H') (h : OddV H v) : OddV H' v := h.imp (·.same S) id
theorem dp_ss {K : PySem.W.Frag} {H : Hp} {p : Addr} {a b : Str} (h : SqL K H p [.str a, .str b]) : Dp K H (.ref p) (.list [.str a, .str b]) := .lst h (.cons (.str _) (.cons (.str _) .nil))
theorem shaped_ss {a b : Str} (ha : PyData.strOk a = true) (hb : PyData.strOk b = true) : SeqAt.shaped (.list [.str a, .str b]) = true := by
  simp only [PySem.SeqAt.shaped, PySem.PyData.canLay0, PySem.PyData.canLayAll0, PySem.PyData.depth, PySem.PyData.depthAll, ha, hb]; rfl
theorem OddV.sameR {H H' : Hp} {v : V} (h : OddV H v) (S : Same H H') : OddV H' v := h.same S
theorem eqv_ss (a b : Str) : PyData.eqv (.list [.str a, .str b]) (.list [.str a, .str b]) = true := by simp [PyData.eqv, PyData.eqvAll]
/-- of a list of anything one item: what all its items keep -/
theorem pickV (P : Hp → V → Prop) {K : PySem.W.Frag} {H : Hp} {a : Addr} {xs : List V} {d : Int} {Q : VK} (e : SqL K H a xs) (hm : ∀ v ∈ xs, P H v) (h0 : 0 ≤ d) (h1 : d < (xs.length : Int))
    (k : ∀ v, v ∈ xs → P H v → Q v H) : rIxL K (.ref a) (.int d) H Q := by
  obtain ⟨j, rfl⟩ : ∃ j : Nat, d = (j : Int) := ⟨d.toNat, by omega⟩
  have hj : j < xs.length := by omega
  exact ixL e (atI_nat (List.getElem?_eq_getElem hj)) (k _ (List.getElem_mem hj) (hm _ (List.getElem_mem hj)))
theorem catL {H : Hp} {l b : Addr} {xs zs : List V} {Q : VK} (h1 : H l = some (.lst xs)) (h2 : H b = some (.lst zs)) (n : xs.length + zs.length ≤ 1000) (k : ∀ p, H p = none → Q (.ref p) (upd H p (.lst (xs ++ zs)))) : rCat (.ref l) (.ref b) H Q :=
  ⟨l, b, xs, zs, rfl, rfl, h1, h2, Nat.le_of_lt (small1000 n), k⟩
/-- a loop over a list that is known whole, turn by turn -/
def unr (K : PySem.W.Frag) (a : Addr) (all : List V) (g : TG) (tb : TS) (D : Ends) : List V → L2.St → Hp → Prop
  | [], σ, H => D.nx σ H
  | x :: xs, σ, H => g x σ H fun σ2 H2 => tb { D with nx := fun σ' H' => SqL K H' a all ∧ unr K a all g tb D xs σ' H', ct := fun σ' H' => SqL K H' a all ∧ unr K a all g tb D xs σ' H', bk := D.nx } σ2 H2
theorem unroll {K : PySem.W.Frag} {a : Addr} {all : List V} {g : TG} {tb : TS} {D : Ends} {σ : L2.St} {H : Hp} (h0 : SqL K H a all) (h : unr K a all g tb D all σ H) :
    ∃ W : Nat → Nat → L2.St → Hp → Prop, (∃ m, W 0 m σ H) ∧ ∀ i m σ H, W i m σ H →
      ((Itl K a).stop i H ∧ D.nx σ H) ∨ ((Itl K a).go i H ∧ ∃ N : L2.St → Hp → Prop, (∀ σ' H', N σ' H' → ∃ m', m' < m ∧ W (i + 1) m' σ' H') ∧ ∀ x H', (Itl K a).yld i H x H' → g x σ H' fun σ2 H2 => tb { D with nx := N, ct := N, bk := D.nx } σ2 H2) := by
  refine for_list (xs := all) (fun i σ H => SqL K H a all ∧ unr K a all g tb D (all.drop i) σ H) ⟨h0, h⟩ (fun i σ H _ p => p.1) (fun i x σ H hx p => ?_) (fun σ H p => ?_)
  · have hi : i < all.length := (List.getElem?_eq_some_iff.mp hx).1
    have e : all.drop i = x :: all.drop (i + 1) := by rw [List.drop_eq_getElem_cons hi]; congr 1; exact (List.getElem?_eq_some_iff.mp hx).2
    have q := p.2
    rw [e] at q
    exact q
  · have q := p.2
    rw [List.drop_length] at q
    exact q
theorem unroll2 {K : PySem.W.Frag} {a : Addr} {all : List V} {g : TG} {tb : TS} {D : Ends} {σ : L2.St} {H : Hp} (h0 : SqL K H a all) (h : unr K a all g tb D all σ H) :
    (∃ xs, SqL K H a xs) ∧ ∃ W : Nat → Nat → L2.St → Hp → Prop, (∃ m, W 0 m σ H) ∧ ∀ i m σ H, W i m σ H →
      ((Itl K a).stop i H ∧ D.nx σ H) ∨ ((Itl K a).go i H ∧ ∃ N : L2.St → Hp → Prop, (∀ σ' H', N σ' H' → ∃ m', m' < m ∧ W (i + 1) m' σ' H') ∧ ∀ x H', (Itl K a).yld i H x H' → g x σ H' fun σ2 H2 => tb { D with nx := N, ct := N, bk := D.nx } σ2 H2) := ⟨⟨_, h0⟩, unroll h0 h⟩
theorem unrCons {K : PySem.W.Frag} {a : Addr} {all : List V} {g : TG} {tb : TS} {D : Ends} {x : V} {xs : List V} {σ : L2.St} {H : Hp}
    (h : g x σ H fun σ2 H2 => tb { D with nx := fun σ' H' => SqL K H' a all ∧ unr K a all g tb D xs σ' H', ct := fun σ' H' => SqL K H' a all ∧ unr K a all g tb D xs σ' H', bk := D.nx } σ2 H2) : unr K a all g tb D (x :: xs) σ H := h
theorem unrNil {K : PySem.W.Frag} {a : Addr} {all : List V} {g : TG} {tb : TS} {D : Ends} {σ : L2.St} {H : Hp} (h : D.nx σ H) : unr K a all g tb D [] σ H := h
/-- {k: v} of written values -/
theorem disp1 {σ : L2.St} {H : Hp} {Q : VK} {i : Int} {x : V} (h : ∀ p, H p = none → Q (.ref p) (upd H p (.dK [(.inl i, x)]))) : tDisp [(tC (.int i), tC x)] σ H Q :=
  fun p np => ⟨upd_same, [(.inl i, x)], rfl, Nat.le_of_ble_eq_true rfl, by rw [upd_upd]; exact h p np⟩
theorem newK {σ : L2.St} {H : Hp} {Q : VK} (h : ∀ p, H p = none → Q (.ref p) (upd H p (.dK []))) : tDNewK σ H Q := h
theorem ty_str {b : Str} : ∀ u, RelV (.str b) u → typeOf u = pure (.type "str") := by
  intro u r
  obtain ⟨t, q⟩ := (show ∃ t, u = Value.str b t from r)
  cases q
  rfl
theorem ty_bl {b : Bool} : ∀ u, RelV (.bl b) u → typeOf u = pure (.type "bool") := by
  intro u r
  cases (show u = Value.bool b from r)
  rfl
end Rd
/-! ## static methods, called by their class; a def's promise that is its own body; small helpers -/
namespace Sta
open PySem PySem.Spec PyProof.Rows L2
structure SMet (K : PySem.W.Frag) (C : Addr) (m : Str) (f : Addr) : Prop where
  rd : PySem.W.readsIn K C (.type "type") = true
  ga : PySem.W.specialIn K (.ref C) "__getattribute__" = some (some (.builtin "type.__getattribute__"))
  at_ : ∃ p rest, PySem.W.findCls K (.ref C) (.type "type") m = some (.get (.builtin "staticmethod.__get__") (.ref p) .none (.ref C)) ∧ PySem.W.recIn K p "staticmethod" = some (.ref f :: rest)
  kp : PySem.W.keepIn K (.ref f) = true
def tSMeth (C : Addr) (sp : Sp) (dvs : List V) (E : XK) (ta : TE) (t : TA) : TE := fun σ H Q => ta σ H fun x H1 => x = .ref C ∧ t σ H1 fun vs H2 => sp (vs ++ dvs) H2 Q E
section
variable {X : Cx} {CX : CXT} {k : Nat} {C f : Addr} {fd : FuncData} {ps : List Str} {ds : List Value} {dvs : List V} {sp : Sp} {E : XK} {o e : Expr} {es : List Expr} {m : Str} {pos apos : Pos} {ta : TE} {t : TA} {pl : Sem Bool}
theorem getmeth_sm {pins : List (Addr × Obj)} {σ : L2.St} {H : Hp} {s : Shared} {A : Around} {E' : Value → Shared → Prop} {Q : Value × List Value → Shared → Prop} (I : Inv X pins σ H s) (c : SMet X.K C m f)
    (h : ∀ s', Inv X pins σ H s' → Q (.ref f, []) s') : wpAny (model X.prog X.w) A (getMethod (.ref C) m pl) Q E' s := by
  obtain ⟨p, rest, a1, a2⟩ := c.at_
  exact PySem.W.method_cls I.kIn c.ga (PySem.W.cls_bind I.kIn c.rd a1 (wpAny_call (PySem.W.sm_get (s := { s with toks := s.toks + 1 }) I.kIn a2 (PySem.W.handed_on rfl (h _ (I.tok _))))))
theorem pe_smeth (he : PE X o ta) (c : SMet X.K C m f) (F : FnOk X.prog X.w X.K X.mg X.base CX k f fd ps sp) (hr : Room k X.A) (hb : Binds X.K fd ps ds) (hd : Vals dvs ds) (hx : Passes CX X E) (ha : PA X (e :: es) t)
    (hst : starEach (e :: es) X.env = (false, eval e X.env) :: starEach es X.env := by rfl) (hpl : (backTo pos (starEach es X.env)).any (·.1) = false := by rfl)
    (ht : eval (.Call (.Attribute o m apos) (e :: es) [] pos) X.env = (do
      let ov ← eval o X.env
      standAt apos.atName
      let (f, first) ← holding [ov] (getMethod ov m pl)
      callWith pos f first (backTo pos (starEach (e :: es) X.env)) (backToKw pos (keywordEach [] X.env))) := by rfl) :
    PE X (.Call (.Attribute o m apos) (e :: es) [] pos) (tSMeth C sp dvs E ta t) := by
  refine ⟨fun pins s σ H Q I h => ?_⟩
  refine PySem.W.methodCall_KW (pl := pl) (thn (he.run pins s σ H _ I h) fun u s1 ⟨x, H1, I1, rx, ex, q⟩ => ?_) ht
  subst ex
  obtain rfl : u = Value.ref C := rx
  refine getmeth_sm I1 c fun s2 I2 => ?_
  refine PySem.W.callWith_K (first := []) (h₀ := X.base) I2.ok.mod.kin c.kp (thn (ha.run pos pins s2 σ H1 _ I2 q) fun us s3 ⟨vs, H2, I3, r, q2⟩ => ⟨I3.kIn, ?_⟩) hst hpl
  exact run_fn (us := us) (vs := vs) F hr hb hd hx I3 r q2
theorem pe_smeth0 (he : PE X o ta) (c : SMet X.K C m f) (F : FnOk X.prog X.w X.K X.mg X.base CX k f fd ps sp) (hr : Room k X.A) (hb : Binds X.K fd ps ds) (hd : Vals dvs ds) (hx : Passes CX X E)
    (ht : eval (.Call (.Attribute o m apos) [] [] pos) X.env = (do
      let ov ← eval o X.env
      standAt apos.atName
      let (f, first) ← holding [ov] (getMethod ov m pl)
      callWith pos f first (backTo pos (starEach [] X.env)) (backToKw pos (keywordEach [] X.env))) := by rfl) :
    PE X (.Call (.Attribute o m apos) [] [] pos) (tSMeth C sp dvs E ta tNil) := by
  refine ⟨fun pins s σ H Q I h => ?_⟩
  refine PySem.W.methodCall_KW (pl := pl) (thn (he.run pins s σ H _ I h) fun u s1 ⟨x, H1, I1, rx, ex, q⟩ => ?_) ht
  subst ex
  obtain rfl : u = Value.ref C := rx
  refine getmeth_sm I1 c fun s2 I2 => ?_
  exact PySem.W.callWith_K0 (first := []) I2.kIn c.kp (run_fn (us := []) (vs := []) F hr hb hd hx I2 .nil q)
/-- a def that may raise, called where nothing may leave -/
theorem passF {X : Cx} : Passes (L2.CX X.prog X.w) X E0 := fun _ _ _ _ _ _ _ ⟨_, _, _, _, _, _, _, _, _, _, _, _, z⟩ => z.elim
end
end Sta
namespace Rd
open PySem PySem.Spec PyProof.Rows L2
section
variable {σ : L2.St} {H : Hp} {Q : VK} {D : Ends} {K : PySem.W.Frag}
theorem smeth {C : Addr} {sp : Sp} {dvs : List V} {E : XK} {ta : TE} {t : TA} (h : ta σ H fun x H1 => x = .ref C ∧ t σ H1 fun vs H2 => sp (vs ++ dvs) H2 Q E) : Sta.tSMeth C sp dvs E ta t σ H Q := h
theorem m0 {r : V → List V → Hp → VK → Prop} {to : TE} (h : to σ H fun x H1 => (∃ a, x = .str a) ∧ r x [] H1 Q) : tM0 r to σ H Q := h
theorem m1 {r : V → List V → Hp → VK → Prop} {to te : TE} (h : to σ H fun x H1 => (∃ a, x = .str a) ∧ te σ H1 fun y H2 => r x [y] H2 Q) : tM1 r to te σ H Q := h
theorem fmt {te : TE} (h : te σ H fun x H1 => (∃ y : Str, x = .str y ∧ y.length ≤ sizeLine ∧ Q (.str y) H1) ∨ ∃ i : Int, x = .int i ∧ i.natAbs.log2 < 1920 ∧ Q (.str (toString i)) H1) : tFmt te σ H Q := h
theorem chainP {r' : R2} {tc : TE} {y : V} {c d : Bool} (h1 : ∀ Q' : VK, Q' (.bl d) H → tc σ H fun w' H4 => r' y w' H4 Q') (h : Q (.bl (c && d)) H) : if c = true then tc σ H (fun w' H4 => r' y w' H4 Q) else Q (.bl false) H := by
  cases c with
  | true => exact h1 Q h
  | false => exact h
theorem peN {X : Cx} {e : Expr} : PE X e (fun _ _ _ => False) := ⟨fun _ _ _ _ _ _ z => z.elim⟩
theorem ptN {X : Cx} {e : Expr} : PT X e (fun _ _ _ => False) := ⟨fun _ _ _ _ _ _ z => z.elim⟩
theorem via {sp : Sp} {vs : List V} {E : XK} (Post : V → Hp → Prop) (h1 : ∀ Q' : VK, (∀ v H', Post v H' → Q' v H') → sp vs H Q' E) (h2 : ∀ v H', Post v H' → Q v H') : sp vs H Q E := h1 Q h2
end
end Rd
/-! ## counting truths in a list -/
namespace Cnt
open PySem PySem.Spec PyProof.Rows L2
theorem bools_of : ∀ {bs : List Bool} {us : List Value}, Vals (bs.map V.bl) us → us = bs.map Value.bool
  | [], _, .nil => rfl
  | b :: bs, _, .cons r rs => by
    have e1 := bools_of rs
    have e2 : _ = Value.bool b := r
    rw [e2, e1]
    rfl
def isB (k : Bool) : Value → Bool
  | .bool b => b == k
  | _ => false
theorem count_isB (k : Bool) : ∀ bs : List Bool, (bs.map Value.bool).countP (isB k) = bs.count k
  | [] => rfl
  | b :: bs => by
    rw [List.map_cons, List.countP_cons, count_isB k bs, List.count_cons]
    rfl
section
variable {X : Cx}
def rCntB (K : PySem.W.Frag) : V → List V → Hp → VK → Prop := fun x xs H Q => ∃ (p : Addr) (bs : List Bool) (k : Bool), x = .ref p ∧ xs = [.bl k] ∧ SqL K H p (bs.map V.bl) ∧ Q (.int (bs.count k : Nat)) H
theorem mt_countB : MtR X "list.count" (rCntB X.K) := by
  intro pins s σ H x xs vv us Q Inv0 rx rxs told
  obtain ⟨p, bs, k, rfl, rfl, sq, goal⟩ := told
  cases rx
  obtain ⟨u, rfl, ru⟩ := rxs.one
  have eu : u = Value.bool k := ru
  subst eu
  obtain ⟨its, rv, ⟨⟨c0, d0, dat0, sl0⟩, n, at0, ec, ed, edat⟩, len0⟩ := Inv0.list sq
  simp only at ec edat
  subst ec edat
  have es := bools_of rv
  refine call_meets PySem.F.slot_list_count ⟨_, at0, rfl⟩ PySem.F.entry_list_count (PySem.F.args_list_count_2 _ _)
    (SeqAt.list_countAt p its.toArray n d0 sl0 (.bool k) (isB k)) ⟨at0, fun y hy => ?_, ?_⟩
  · have hm : y ∈ bs.map Value.bool := by rw [← es]; simpa using hy
    obtain ⟨b, _, rfl⟩ := List.mem_map.mp hm
    exact SeqAt.EqAt.bool_bool b k
  · have en : its.toArray.toList.countP (isB k) = bs.count k := by
      show its.countP (isB k) = _
      rw [es]
      exact count_isB k bs
    refine ⟨.int (bs.count k : Nat), H, Inv0.tok _, ⟨s.toks, ?_⟩, goal⟩
    show Value.int ((its.toArray.toList.countP (isB k) : Nat) : Int) s.toks = _
    rw [en]
end
end Cnt
/-! ## comprehensions over written sources, item by item; ways joined behind an if -/
namespace Rd
open PySem PySem.Spec PyProof.Rows L2
/-- what is left of a comprehension, item by item; st says that the source stands -/
def Rem (D : Addr) (g : TG) (tt : TT) (te : TE) (vs : List Nat) (σ : L2.St) (st Q : Hp → Prop) : List V → Hp → Prop
  | [], H => st H ∧ Q H
  | x :: r, H => st H ∧ g x (wipe σ vs) H fun σ2 H2 => wipe σ2 vs = wipe σ vs ∧ tt σ2 H2 fun b H3 => if b = true then te σ2 H3 fun y H4 => ∃ acc, H4 D = some (.lst acc) ∧ acc.length < sizeLine ∧ Rem D g tt te vs σ st Q r (upd H4 D (.lst (acc ++ [y]))) else Rem D g tt te vs σ st Q r H3
section
variable {σ : L2.St} {H : Hp} {Q : VK} {K : PySem.W.Frag} {D : Addr} {g : TG} {tt : TT} {te : TE} {vs : List Nat} {st Qd : Hp → Prop}
theorem rem_st {l : List V} (h : Rem D g tt te vs σ st Qd l H) : st H := by cases l <;> exact h.1
theorem remCons {x : V} {r : List V} (h0 : st H) (h : g x (wipe σ vs) H fun σ2 H2 => wipe σ2 vs = wipe σ vs ∧ tt σ2 H2 fun b H3 => if b = true then te σ2 H3 fun y H4 => ∃ acc, H4 D = some (.lst acc) ∧ acc.length < sizeLine ∧ Rem D g tt te vs σ st Qd r (upd H4 D (.lst (acc ++ [y]))) else Rem D g tt te vs σ st Qd r H3) : Rem D g tt te vs σ st Qd (x :: r) H := ⟨h0, h⟩
theorem remNil (h0 : st H) (h : Qd H) : Rem D g tt te vs σ st Qd [] H := ⟨h0, h⟩
theorem drop_at {l : List V} {i : Nat} {x : V} (h : l[i]? = some x) : l.drop i = x :: l.drop (i + 1) := by
  obtain ⟨hi, e⟩ := List.getElem?_eq_some_iff.mp h
  rw [List.drop_eq_getElem_cons hi, e]
/-- over a written list -/
theorem lcUnrL {Qa : Addr → Hp → Prop} {a : Addr} {xs : List V} (hs : SqL K H a xs) (h : ∀ D, H D = none → Rem D g tt te vs σ (fun H' => SqL K H' a xs) (fun H' => Qa D H') xs (upd H D (.lst []))) :
    (∃ xs, SqL K H a xs) ∧ ∀ D, H D = none → ∃ W : Nat → Nat → Hp → Prop, (∃ m, W 0 m (upd H D (.lst []))) ∧ ∀ t m H, W t m H →
      ((Itl K a).stop t H ∧ Qa D H) ∨ ((Itl K a).go t H ∧ ∃ Nx : Hp → Prop, (∀ H', Nx H' → ∃ m', m' < m ∧ W (t + 1) m' H') ∧ ∀ x H', (Itl K a).yld t H x H' → g x (wipe σ vs) H' fun σ2 H2 => wipe σ2 vs = wipe σ vs ∧ tt σ2 H2 fun b H3 =>
        if b = true then te σ2 H3 fun y H4 => ∃ acc, H4 D = some (.lst acc) ∧ acc.length < sizeLine ∧ Nx (upd H4 D (.lst (acc ++ [y]))) else Nx H3) :=
  ⟨⟨_, hs⟩, fun D hD => lc_list (xs := xs) (fun i H' => Rem D g tt te vs σ (fun H' => SqL K H' a xs) (fun H' => Qa D H') (xs.drop i) H') (h D hD) (fun _ _ _ p => rem_st p) (fun i x H' hx p => by rw [drop_at hx] at p; exact p.2) fun H' p => by
    rw [List.drop_length] at p
    exact p.2⟩
/-- over a written tuple -/
theorem lcUnrT {Qa : Addr → Hp → Prop} {a : Addr} {xs : List V} (hs : SqT K H a xs) (h : ∀ D, H D = none → Rem D g tt te vs σ (fun H' => SqT K H' a xs) (fun H' => Qa D H') xs (upd H D (.lst []))) :
    (∃ xs, SqT K H a xs) ∧ ∀ D, H D = none → ∃ W : Nat → Nat → Hp → Prop, (∃ m, W 0 m (upd H D (.lst []))) ∧ ∀ t m H, W t m H →
      ((Itt K a).stop t H ∧ Qa D H) ∨ ((Itt K a).go t H ∧ ∃ Nx : Hp → Prop, (∀ H', Nx H' → ∃ m', m' < m ∧ W (t + 1) m' H') ∧ ∀ x H', (Itt K a).yld t H x H' → g x (wipe σ vs) H' fun σ2 H2 => wipe σ2 vs = wipe σ vs ∧ tt σ2 H2 fun b H3 =>
        if b = true then te σ2 H3 fun y H4 => ∃ acc, H4 D = some (.lst acc) ∧ acc.length < sizeLine ∧ Nx (upd H4 D (.lst (acc ++ [y]))) else Nx H3) :=
  ⟨⟨_, hs⟩, fun D hD => lc_tup (xs := xs) (fun i H' => Rem D g tt te vs σ (fun H' => SqT K H' a xs) (fun H' => Qa D H') (xs.drop i) H') (h D hD) (fun _ _ _ p => rem_st p) (fun i x H' hx p => by rw [drop_at hx] at p; exact p.2) fun H' p => by
    rw [List.drop_length] at p
    exact p.2⟩
/-- the ints of a range -/
def rgV (lo : Int) : Nat → List V
  | 0 => []
  | n + 1 => .int lo :: rgV (lo + 1) n
theorem rgV_at : ∀ (n : Nat) (lo : Int) (i : Nat), i < n → (rgV lo n)[i]? = some (.int (lo + i))
  | n + 1, lo, 0, _ => by simp [rgV]
  | n + 1, lo, i + 1, h => by
    show (rgV (lo + 1) n)[i]? = _
    rw [rgV_at n (lo + 1) i (by omega)]
    congr 2
    omega
theorem rgV_len : ∀ (n : Nat) (lo : Int), (rgV lo n).length = n
  | 0, _ => rfl
  | n + 1, lo => by show (rgV (lo + 1) n).length + 1 = _; rw [rgV_len n]
theorem lcUnrR {Qa : Addr → Hp → Prop} {lo : Int} {n : Nat} (h : ∀ D, H D = none → Rem D g tt te vs σ (fun _ => True) (fun H' => Qa D H') (rgV lo n) (upd H D (.lst []))) :
    ∀ D, H D = none → ∃ W : Nat → Nat → Hp → Prop, (∃ m, W 0 m (upd H D (.lst []))) ∧ ∀ t m H, W t m H →
      ((Itr lo n).stop t H ∧ Qa D H) ∨ ((Itr lo n).go t H ∧ ∃ Nx : Hp → Prop, (∀ H', Nx H' → ∃ m', m' < m ∧ W (t + 1) m' H') ∧ ∀ x H', (Itr lo n).yld t H x H' → g x (wipe σ vs) H' fun σ2 H2 => wipe σ2 vs = wipe σ vs ∧ tt σ2 H2 fun b H3 =>
        if b = true then te σ2 H3 fun y H4 => ∃ acc, H4 D = some (.lst acc) ∧ acc.length < sizeLine ∧ Nx (upd H4 D (.lst (acc ++ [y]))) else Nx H3) :=
  fun D hD => lc_range (lo := lo) (n := n) (fun i H' => Rem D g tt te vs σ (fun _ => True) (fun H' => Qa D H') ((rgV lo n).drop i) H') (h D hD) (fun i H' hi p => by rw [drop_at (rgV_at n lo i hi)] at p; exact p.2) fun H' p => by
    rw [List.drop_of_length_le (by rw [rgV_len]; exact Nat.le_refl _)] at p
    exact p.2
theorem yes {q : Bool → Hp → Prop} (h : q true H) : tYes σ H q := h
/-- two ways of an if that meet -/
theorem ifJ {D : Ends} {c : TT} {t u : TS} (J : L2.St → Hp → Prop) (h1 : (∀ σ' H', J σ' H' → D.nx σ' H') → tIfS c t u D σ H) (h2 : ∀ σ' H', J σ' H' → D.nx σ' H') : tIfS c t u D σ H := h1 h2
/-- a heap known by facts alone, from here on -/
theorem comp {t : TS} {D : Ends} (P : Hp → Prop) (h0 : P H) (h : ∀ H', P H' → t D σ H') : t D σ H := h H h0
theorem truB {b : Bool} (e : b = true) (h : Q (.bl true) H) : Q (.bl b) H := by rw [e]; exact h
theorem cnt3 {p : Addr} {x y z k : Bool} (e : SqL K H p [.bl x, .bl y, .bl z]) (h : Q (.int (([x, y, z].count k : Nat) : Int)) H) : Cnt.rCntB K (.ref p) [.bl k] H Q := ⟨p, [x, y, z], k, rfl, rfl, e, h⟩
theorem feqF {a b c d : Int} (h1 : a = b) (h2 : c = d) : (!(decide (V.int a = V.int b) && decide (V.int c = V.int d))) = false := by
  rw [h1, h2, decide_eq_true rfl, decide_eq_true rfl]; rfl
theorem feqT {a b c d : Int} (h1 : a = b) (h2 : c = d) : (decide (V.int a = V.int b) && decide (V.int c = V.int d)) = true := by
  rw [h1, h2, decide_eq_true rfl, decide_eq_true rfl]; rfl
theorem neB {x y : Bool} (h : x = y) : (!decide (V.bl x = V.bl y)) = false := by rw [h, decide_eq_true rfl]; rfl
theorem tri (a b c d : Int) : (!decide (V.int (([decide (a < c ∨ a = c ∧ b < d), (decide (V.int a = V.int c) && decide (V.int b = V.int d)), decide (c < a ∨ c = a ∧ d < b)].count true : Nat) : Int) = V.int 1)) = false := by
  have e1 : decide (V.int a = V.int c) = decide (a = c) := by simp only [V.int.injEq]
  have e2 : decide (V.int b = V.int d) = decide (b = d) := by simp only [V.int.injEq]
  rw [e1, e2]
  rcases (by omega : a < c ∨ c < a ∨ (a = c ∧ b < d) ∨ (a = c ∧ d < b) ∨ (a = c ∧ b = d)) with h | h | ⟨h, g⟩ | ⟨h, g⟩ | ⟨h, g⟩
  · rw [decide_eq_true (show a < c ∨ a = c ∧ b < d by omega), decide_eq_false (show ¬ a = c by omega), decide_eq_false (show ¬ (c < a ∨ c = a ∧ d < b) by omega)]; rfl
  · rw [decide_eq_false (show ¬ (a < c ∨ a = c ∧ b < d) by omega), decide_eq_false (show ¬ a = c by omega), decide_eq_true (show (c < a ∨ c = a ∧ d < b) by omega)]; rfl
  · rw [decide_eq_true (show a < c ∨ a = c ∧ b < d by omega), decide_eq_false (show ¬ b = d by omega), Bool.and_false, decide_eq_false (show ¬ (c < a ∨ c = a ∧ d < b) by omega)]; rfl
  · rw [decide_eq_false (show ¬ (a < c ∨ a = c ∧ b < d) by omega), decide_eq_false (show ¬ b = d by omega), Bool.and_false, decide_eq_true (show (c < a ∨ c = a ∧ d < b) by omega)]; rfl
  · rw [decide_eq_false (show ¬ (a < c ∨ a = c ∧ b < d) by omega), decide_eq_true h, decide_eq_true g, decide_eq_false (show ¬ (c < a ∨ c = a ∧ d < b) by omega)]; rfl
theorem stepLt {a b c d t : Int} (h : 0 < t) : decide (a * t < c * t ∨ a * t = c * t ∧ b * t < d * t) = decide (a < c ∨ a = c ∧ b < d) := by
  have m1 : a * t < c * t ↔ a < c := Int.mul_lt_mul_right h
  have m2 : b * t < d * t ↔ b < d := Int.mul_lt_mul_right h
  have m3 : a * t = c * t ↔ a = c := ⟨fun e => Int.eq_of_mul_eq_mul_right (by omega) e, fun e => by rw [e]⟩
  rw [decide_eq_decide, m1, m2, m3]
theorem stepGt {a b c d t : Int} (h : 0 < t) : decide (a * (0 - t) < c * (0 - t) ∨ a * (0 - t) = c * (0 - t) ∧ b * (0 - t) < d * (0 - t)) = decide (c < a ∨ c = a ∧ d < b) := by
  have n : ∀ x : Int, x * (0 - t) = -(x * t) := fun x => by rw [Int.zero_sub, Int.mul_neg]
  have m1 : a * (0 - t) < c * (0 - t) ↔ c < a := by rw [n, n, Int.neg_lt_neg_iff]; exact Int.mul_lt_mul_right h
  have m2 : b * (0 - t) < d * (0 - t) ↔ d < b := by rw [n, n, Int.neg_lt_neg_iff]; exact Int.mul_lt_mul_right h
  have m3 : a * (0 - t) = c * (0 - t) ↔ c = a := ⟨fun e => (Int.eq_of_mul_eq_mul_right (by omega) e).symm, fun e => by rw [e]⟩
  rw [decide_eq_decide, m1, m2, m3]
end
end Rd
/-! ## schemes: words, dicts, written tuples, calls by keywords -/
namespace Rd
open PySem PySem.Spec PyProof.Rows L2
section
variable {σ : L2.St} {H : Hp} {Q : VK} {D : Ends} {K : PySem.W.Frag}
theorem mkK {C : Addr} {m : Nat} {sp : Sp} {gV : List V → List V → List V} {E : XK} {tk : TA} (h : tk σ H fun zs H2 => ([] : List V).length = 0 ∧ zs.length = m ∧ ∀ x dx, H2 x = none → H2 dx = none → dx ≠ x →
    sp (gV (.ref x :: []) zs) (upd (upd H2 dx (.own x)) x (.ins C dx [])) (fun v H3 => v = .non ∧ Q (.ref x) H3) E) : tMakeK C 0 m sp gV E tNil tk σ H Q := h
theorem dget {td ty : TE} (h : td σ H fun x H1 => ty σ H1 fun y H2 => ∃ a v, x = .ref a ∧ DGet H2 a y (some v) ∧ Q v H2) : tDGet td ty σ H Q := h
theorem dget2 {a : Addr} {kvs : List (Key × V)} {z : Str} {v : V} {R : V → Prop} (e : H a = some (.dK kvs)) (l : valV kvs (.inr z) = some v) (h : R v) : ∃ a' v, V.ref a = .ref a' ∧ DGet H a' (.str z) (some v) ∧ R v :=
  ⟨a, v, rfl, by have := DGet.k (k := Sum.inr z) e; rw [l] at this; exact this, h⟩
/-- a written tuple, whatever the heap -/
def SqTK (K : PySem.W.Frag) (a : Addr) (xs : List V) : Prop := ∀ H, SqT K H a xs
theorem SqTK.get {a : Addr} {xs : List V} (h : SqTK K a xs) : SqT K H a xs := h H
theorem inW {s : Str} {ws : List Str} (h : s ∈ ws) : inV (.str s) (ws.map V.str) = true := by
  unfold inV
  rw [List.any_eq_true]
  exact ⟨.str s, List.mem_map.mpr ⟨s, h, rfl⟩, by simp [eqV]⟩
theorem pickAny {a : Addr} {xs : List V} {d : Int} (e : SqL K H a xs) (h0 : 0 ≤ d) (h1 : d < (xs.length : Int)) (k : ∀ v, v ∈ xs → Q v H) : rIxL K (.ref a) (.int d) H Q := by
  obtain ⟨j, rfl⟩ : ∃ j : Nat, d = (j : Int) := ⟨d.toNat, by omega⟩
  have hj : j < xs.length := by omega
  exact ixL e (atI_nat (List.getElem?_eq_getElem hj)) (k _ (List.getElem_mem hj))
theorem bits {to : TE} (h : to σ H fun x H1 => ∃ i, x = .int i ∧ Q (.int (Builtin.Int.intBits i : Nat)) H1) : tBits to σ H Q := h
theorem tru {ta : TE} {q : Bool → Hp → Prop} (h : ta σ H fun x H' => ∃ k, TruV K x H' k ∧ q k H') : (fun σ H Q => ta σ H fun x H' => ∃ k, TruV K x H' k ∧ Q k H' : TT) σ H q := h
theorem truI {i : Int} : TruV K (.int i) H (i != 0) := rfl
theorem rng2 {ta : TA} {R : It → Hp → Prop} (h : ta σ H fun vs H1 => ∃ i j : Int, vs = [.int i, .int j] ∧ (-(2 ^ 62) ≤ i ∧ i < 2 ^ 62 ∧ -(2 ^ 62) ≤ j ∧ j < 2 ^ 62) ∧ R (Itr i (j - i).toNat) H1) : iRng2 ta σ H R := h
theorem notF {b : Bool} (h : b = true) : (!b) = false := by rw [h]; rfl
theorem inT {p : Addr} {x : V} {xs : List V} (e : SqL K H p xs ∨ SqT K H p xs) (f1 : flatV x = true) (f2 : xs.all flatV = true) (h : Q (.bl (inV x xs)) H) : rIn K false x (.ref p) H Q := ⟨p, xs, rfl, e, f1, f2, h⟩
theorem kt_int_int {K : PySem.W.Frag} : PySem.W.kitOne K (.type "int") (.type "int") = some true := kit_ty (by decide +kernel)
theorem kt_int_bool {K : PySem.W.Frag} : PySem.W.kitOne K (.type "int") (.type "bool") = some false := kit_ty (by decide +kernel)
theorem kt_int_str {K : PySem.W.Frag} : PySem.W.kitOne K (.type "int") (.type "str") = some false := kit_ty (by decide +kernel)
theorem kt_int_tuple {K : PySem.W.Frag} : PySem.W.kitOne K (.type "int") (.type "tuple") = some false := kit_ty (by decide +kernel)
theorem kt_int_list {K : PySem.W.Frag} : PySem.W.kitOne K (.type "int") (.type "list") = some false := kit_ty (by decide +kernel)
theorem kt_int_dict {K : PySem.W.Frag} : PySem.W.kitOne K (.type "int") (.type "dict") = some false := kit_ty (by decide +kernel)
theorem kt_bool_int {K : PySem.W.Frag} : PySem.W.kitOne K (.type "bool") (.type "int") = some true := kit_ty (by decide +kernel)
theorem kt_bool_bool {K : PySem.W.Frag} : PySem.W.kitOne K (.type "bool") (.type "bool") = some true := kit_ty (by decide +kernel)
theorem kt_bool_str {K : PySem.W.Frag} : PySem.W.kitOne K (.type "bool") (.type "str") = some false := kit_ty (by decide +kernel)
theorem kt_bool_tuple {K : PySem.W.Frag} : PySem.W.kitOne K (.type "bool") (.type "tuple") = some false := kit_ty (by decide +kernel)
theorem kt_bool_list {K : PySem.W.Frag} : PySem.W.kitOne K (.type "bool") (.type "list") = some false := kit_ty (by decide +kernel)
theorem kt_bool_dict {K : PySem.W.Frag} : PySem.W.kitOne K (.type "bool") (.type "dict") = some false := kit_ty (by decide +kernel)
theorem kt_str_int {K : PySem.W.Frag} : PySem.W.kitOne K (.type "str") (.type "int") = some false := kit_ty (by decide +kernel)
theorem kt_str_bool {K : PySem.W.Frag} : PySem.W.kitOne K (.type "str") (.type "bool") = some false := kit_ty (by decide +kernel)
theorem kt_str_str {K : PySem.W.Frag} : PySem.W.kitOne K (.type "str") (.type "str") = some true := kit_ty (by decide +kernel)
theorem kt_str_tuple {K : PySem.W.Frag} : PySem.W.kitOne K (.type "str") (.type "tuple") = some false := kit_ty (by decide +kernel)
theorem kt_str_list {K : PySem.W.Frag} : PySem.W.kitOne K (.type "str") (.type "list") = some false := kit_ty (by decide +kernel)
theorem kt_str_dict {K : PySem.W.Frag} : PySem.W.kitOne K (.type "str") (.type "dict") = some false := kit_ty (by decide +kernel)
theorem kt_NoneType_int {K : PySem.W.Frag} : PySem.W.kitOne K (.type "NoneType") (.type "int") = some false := kit_ty (by decide +kernel)
theorem kt_NoneType_bool {K : PySem.W.Frag} : PySem.W.kitOne K (.type "NoneType") (.type "bool") = some false := kit_ty (by decide +kernel)
theorem kt_NoneType_str {K : PySem.W.Frag} : PySem.W.kitOne K (.type "NoneType") (.type "str") = some false := kit_ty (by decide +kernel)
theorem kt_NoneType_tuple {K : PySem.W.Frag} : PySem.W.kitOne K (.type "NoneType") (.type "tuple") = some false := kit_ty (by decide +kernel)
theorem kt_NoneType_list {K : PySem.W.Frag} : PySem.W.kitOne K (.type "NoneType") (.type "list") = some false := kit_ty (by decide +kernel)
theorem kt_NoneType_dict {K : PySem.W.Frag} : PySem.W.kitOne K (.type "NoneType") (.type "dict") = some false := kit_ty (by decide +kernel)
theorem kt_tuple_int {K : PySem.W.Frag} : PySem.W.kitOne K (.type "tuple") (.type "int") = some false := kit_ty (by decide +kernel)
theorem kt_tuple_bool {K : PySem.W.Frag} : PySem.W.kitOne K (.type "tuple") (.type "bool") = some false := kit_ty (by decide +kernel)
theorem kt_tuple_str {K : PySem.W.Frag} : PySem.W.kitOne K (.type "tuple") (.type "str") = some false := kit_ty (by decide +kernel)
theorem kt_tuple_tuple {K : PySem.W.Frag} : PySem.W.kitOne K (.type "tuple") (.type "tuple") = some true := kit_ty (by decide +kernel)
theorem kt_tuple_list {K : PySem.W.Frag} : PySem.W.kitOne K (.type "tuple") (.type "list") = some false := kit_ty (by decide +kernel)
theorem kt_tuple_dict {K : PySem.W.Frag} : PySem.W.kitOne K (.type "tuple") (.type "dict") = some false := kit_ty (by decide +kernel)
theorem kt_list_int {K : PySem.W.Frag} : PySem.W.kitOne K (.type "list") (.type "int") = some false := kit_ty (by decide +kernel)
theorem kt_list_bool {K : PySem.W.Frag} : PySem.W.kitOne K (.type "list") (.type "bool") = some false := kit_ty (by decide +kernel)
theorem kt_list_str {K : PySem.W.Frag} : PySem.W.kitOne K (.type "list") (.type "str") = some false := kit_ty (by decide +kernel)
theorem kt_list_tuple {K : PySem.W.Frag} : PySem.W.kitOne K (.type "list") (.type "tuple") = some false := kit_ty (by decide +kernel)
theorem kt_list_list {K : PySem.W.Frag} : PySem.W.kitOne K (.type "list") (.type "list") = some true := kit_ty (by decide +kernel)
theorem kt_list_dict {K : PySem.W.Frag} : PySem.W.kitOne K (.type "list") (.type "dict") = some false := kit_ty (by decide +kernel)
theorem kt_dict_int {K : PySem.W.Frag} : PySem.W.kitOne K (.type "dict") (.type "int") = some false := kit_ty (by decide +kernel)
theorem kt_dict_bool {K : PySem.W.Frag} : PySem.W.kitOne K (.type "dict") (.type "bool") = some false := kit_ty (by decide +kernel)
theorem kt_dict_str {K : PySem.W.Frag} : PySem.W.kitOne K (.type "dict") (.type "str") = some false := kit_ty (by decide +kernel)
theorem kt_dict_tuple {K : PySem.W.Frag} : PySem.W.kitOne K (.type "dict") (.type "tuple") = some false := kit_ty (by decide +kernel)
theorem kt_dict_list {K : PySem.W.Frag} : PySem.W.kitOne K (.type "dict") (.type "list") = some false := kit_ty (by decide +kernel)
theorem kt_dict_dict {K : PySem.W.Frag} : PySem.W.kitOne K (.type "dict") (.type "dict") = some true := kit_ty (by decide +kernel)
theorem inW_iff {s : Str} {ws : List Str} : inV (.str s) (ws.map V.str) = decide (s ∈ ws) := by
  by_cases h : s ∈ ws
  · rw [inW h, decide_eq_true h]
  · rw [decide_eq_false h, Bool.eq_false_iff]
    intro e
    unfold inV at e
    rw [List.any_eq_true] at e
    obtain ⟨x, hx, e⟩ := e
    obtain ⟨t, ht, rfl⟩ := List.mem_map.mp hx
    have : t = s := by simpa [eqV] using e
    exact h (this ▸ ht)
theorem flatW (ws : List Str) : (ws.map V.str).all flatV = true := by
  rw [List.all_eq_true]
  intro x hx
  obtain ⟨t, _, rfl⟩ := List.mem_map.mp hx
  rfl
/-- a loop over a tuple that is known whole, turn by turn -/
def unrT (K : PySem.W.Frag) (a : Addr) (all : List V) (g : TG) (tb : TS) (D : Ends) : List V → L2.St → Hp → Prop
  | [], σ, H => D.nx σ H
  | x :: xs, σ, H => g x σ H fun σ2 H2 => tb { D with nx := fun σ' H' => SqT K H' a all ∧ unrT K a all g tb D xs σ' H', ct := fun σ' H' => SqT K H' a all ∧ unrT K a all g tb D xs σ' H', bk := D.nx } σ2 H2
theorem unrollT {a : Addr} {all : List V} {g : TG} {tb : TS} (h0 : SqT K H a all) (h : unrT K a all g tb D all σ H) :
    (∃ xs, SqT K H a xs) ∧ ∃ W : Nat → Nat → L2.St → Hp → Prop, (∃ m, W 0 m σ H) ∧ ∀ i m σ H, W i m σ H →
      ((Itt K a).stop i H ∧ D.nx σ H) ∨ ((Itt K a).go i H ∧ ∃ N : L2.St → Hp → Prop, (∀ σ' H', N σ' H' → ∃ m', m' < m ∧ W (i + 1) m' σ' H') ∧ ∀ x H', (Itt K a).yld i H x H' → g x σ H' fun σ2 H2 => tb { D with nx := N, ct := N, bk := D.nx } σ2 H2) := by
  refine ⟨⟨_, h0⟩, for_tup (xs := all) (fun i σ H => SqT K H a all ∧ unrT K a all g tb D (all.drop i) σ H) ⟨h0, h⟩ (fun i σ H _ p => p.1) (fun i x σ H hx p => ?_) (fun σ H p => ?_)⟩
  · have q := p.2
    rw [drop_at hx] at q
    exact q
  · have q := p.2
    rw [List.drop_length] at q
    exact q
theorem unrTCons {a : Addr} {all : List V} {g : TG} {tb : TS} {x : V} {xs : List V}
    (h : g x σ H fun σ2 H2 => tb { D with nx := fun σ' H' => SqT K H' a all ∧ unrT K a all g tb D xs σ' H', ct := fun σ' H' => SqT K H' a all ∧ unrT K a all g tb D xs σ' H', bk := D.nx } σ2 H2) : unrT K a all g tb D (x :: xs) σ H := h
theorem unrTNil {a : Addr} {all : List V} {g : TG} {tb : TS} (h : D.nx σ H) : unrT K a all g tb D [] σ H := h
/-- five written texts as keys -/
theorem disp5 {t1 t2 t3 t4 t5 : TE} {v1 v2 v3 v4 v5 : V} {k1 k2 k3 k4 k5 : Str} (h1 : ∀ H (R : VK), R v1 H → t1 σ H R) (h2 : ∀ H (R : VK), R v2 H → t2 σ H R) (h3 : ∀ H (R : VK), R v3 H → t3 σ H R) (h4 : ∀ H (R : VK), R v4 H → t4 σ H R) (h5 : ∀ H (R : VK), R v5 H → t5 σ H R)
    (h : ∀ p, H p = none → Q (.ref p) (upd H p (.dK (mergeK [] [(.inr k1, v1), (.inr k2, v2), (.inr k3, v3), (.inr k4, v4), (.inr k5, v5)])))) : tDisp [(tC (.str k1), t1), (tC (.str k2), t2), (tC (.str k3), t3), (tC (.str k4), t4), (tC (.str k5), t5)] σ H Q := by
  intro p np
  refine h1 _ _ (h2 _ _ (h3 _ _ (h4 _ _ (h5 _ _ ?_))))
  refine ⟨upd_same, [(.inr k1, v1), (.inr k2, v2), (.inr k3, v3), (.inr k4, v4), (.inr k5, v5)], rfl, Nat.le_of_ble_eq_true rfl, ?_⟩
  rw [upd_upd]
  exact h p np
theorem ixTK {X : Cx} {K : PySem.W.Frag} (e : X.K = K) : IxR X (rIxT K) := e ▸ ix_tup
theorem ixLK {X : Cx} {K : PySem.W.Frag} (e : X.K = K) : IxR X (rIxL K) := e ▸ ix_list
theorem tp0 {R : List (V × V) → Hp → Prop} (h : R [] H) : tPairs [] σ H R := h
theorem tp1 {tk tv : TE} {r : List (TE × TE)} {R : List (V × V) → Hp → Prop} (h : tk σ H fun x H1 => tv σ H1 fun y H2 => tPairs r σ H2 fun ps H3 => R ((x, y) :: ps) H3) : tPairs ((tk, tv) :: r) σ H R := h
theorem callS {sp : Sp} {E : L2.St → XK} {t : TA} (h : t σ H fun vs H1 => sp vs H1 Q (E σ)) : tCallS sp E t σ H Q := h
end
end Rd
/-! ## several handlers; a drawn item of a written tuple -/
namespace Rd
open PySem PySem.Spec PyProof.Rows L2
theorem wmT {K : PySem.W.Frag} {Wout : WX} {D : Ends} {c : Value} {ts : Addr → Value → Option Addr → TS} {r : List (Value × (Addr → Value → Option Addr → TS))} {cls : Value} {d : Option Addr} {σ : L2.St} {H : Hp}
    (e : PySem.W.exmOne K cls c = some true) (h : ∀ a, H a = none → ts a cls d D σ H) : wMany K Wout D ((c, ts) :: r) cls d σ H := ⟨true, e, fun _ => h, fun q => Bool.noConfusion q⟩
theorem wmF {K : PySem.W.Frag} {Wout : WX} {D : Ends} {c : Value} {ts : Addr → Value → Option Addr → TS} {r : List (Value × (Addr → Value → Option Addr → TS))} {cls : Value} {d : Option Addr} {σ : L2.St} {H : Hp}
    (e : PySem.W.exmOne K cls c = some false) (h : wMany K Wout D r cls d σ H) : wMany K Wout D ((c, ts) :: r) cls d σ H := ⟨false, e, fun q => Bool.noConfusion q, fun _ => h⟩
theorem pickT (P : V → Prop) {K : PySem.W.Frag} {H : Hp} {a : Addr} {xs : List V} {d : Int} {Q : VK} (e : SqT K H a xs) (hm : ∀ v ∈ xs, P v) (h0 : 0 ≤ d) (h1 : d < (xs.length : Int))
    (k : ∀ v, P v → Q v H) : rIxT K (.ref a) (.int d) H Q := by
  obtain ⟨j, rfl⟩ : ∃ j : Nat, d = (j : Int) := ⟨d.toNat, by omega⟩
  have hj : j < xs.length := by omega
  exact ixT e (atI_nat (List.getElem?_eq_getElem hj)) (k _ (hm _ (List.getElem_mem hj)))
theorem pickTH (P : Hp → V → Prop) {K : PySem.W.Frag} {H : Hp} {a : Addr} {xs : List V} {d : Int} {Q : VK} (e : SqT K H a xs) (hm : ∀ v ∈ xs, P H v) (h0 : 0 ≤ d) (h1 : d < (xs.length : Int))
    (k : ∀ v, P H v → Q v H) : rIxT K (.ref a) (.int d) H Q := pickT (P H) e hm h0 h1 k
/-- with what the place says -/
theorem pickTd (P : V → Prop) {K : PySem.W.Frag} {H : Hp} {a : Addr} {xs : List V} {d : Int} {Q : VK} (e : SqT K H a xs) (h0 : 0 ≤ d) (h1 : d < (xs.length : Int)) (hm : ∀ (j : Nat) (v : V), xs[j]? = some v → d = (j : Int) → P v)
    (k : ∀ v, P v → Q v H) : rIxT K (.ref a) (.int d) H Q := by
  obtain ⟨j, rfl⟩ : ∃ j : Nat, d = (j : Int) := ⟨d.toNat, by omega⟩
  have hj : j < xs.length := by omega
  exact ixT e (atI_nat (List.getElem?_eq_getElem hj)) (k _ (hm j _ (List.getElem?_eq_getElem hj) rfl))
end Rd
/-! ## bool(o) by the own __bool__ (as in dq.lean) -/
namespace Own
open PySem PySem.Spec PyProof.Rows L2
section
variable {X : Cx} {CX : CXT} {k : Nat} {f f0 C : Addr} {fd : FuncData} {ps : List Str} {sp : Sp} {E : XK} {op : Operator}
theorem runIn2 {pins : List (Addr × Obj)} {σ : L2.St} {H : Hp} {s : Shared} {Q : VK} {us : List Value} {vs : List V} (F : FnOk X.prog X.w X.K X.mg X.base CX k f fd ps sp) (hr : Room (k + 2) X.A) (hb : Binds X.K fd ps []) (hx : Passes CX X E)
    (I : Inv X pins σ H s) (r : Vals vs us) (h : sp vs H Q E) : wpAny (model X.prog X.w) X.A.in1.in1 (PySem.call (.ref f) us) (EP X pins σ Q) X.xe s := by
  have hl : us.length = ps.length := by rw [← r.length]; exact F.len _ _ _ _ h
  have hb' := hb s us I.kIn (by simpa using hl)
  rw [List.append_nil] at hb'
  refine wpAny_call (codeAny_mono (F.run X.A.in1.in1 X.stack s H ⟨us, []⟩ us vs Q E hr.in1.in1 I.env0.in1.in1 hb' r h) fun r s' hq => ?_)
  cases r with
  | error e => exact hx pins σ H s e s' I hq
  | ok fl =>
    cases fl with
    | ret u => exact I.after hq
    | next => exact False.elim hq
    | brk => exact False.elim hq
    | cont => exact False.elim hq
theorem boolOwn (F : FnOk X.prog X.w X.K X.mg X.base CX k f fd ps sp) (hr : Room (k + 2) X.A) (B : Sp1 X.K C "__bool__" f) (hb : Binds X.K fd ps []) (hx : Passes CX X E) :
    CallR X (.type "bool") (fun xs H Q => ∃ a dx fs, xs = [.ref a] ∧ H a = some (.ins C dx fs) ∧ sp [.ref a] H (fun v H' => ∃ b, v = .bl b ∧ Q (.bl b) H') E) := by
  rintro pins s σ H xs us Q I rs ⟨a, dx, fs, rfl, ha, q⟩
  cases rs with
  | cons r rest =>
    cases rest
    cases r
    obtain ⟨od, J⟩ := inst I ha
    obtain ⟨m, hF⟩ := I.fr
    have tr : wpAny (model X.prog X.w) X.A.in1.in1 (truthy (.ref a)) (fun b s' => EP X pins σ Q (.bool b) s') X.xe s :=
      PySem.W.truthy_K hF I.ok.mod.kin J B.at_ B.fn (wpAny_mono (runIn2 (us := [.ref a]) (vs := [.ref a]) F hr hb hx I (.cons rfl .nil) q) (fun r s' hq => by
        obtain ⟨z, H', I', rz, b, rfl, q'⟩ := hq
        cases rz
        exact ⟨.bl b, H', I', rfl, q'⟩) fun _ _ e => e)
    refine callType_codes (Q₁ := fun obj s₁ => ∃ b, obj = Value.bool b ∧ EP X pins σ Q obj s₁) PySem.F.called_bool (PySem.F.typeCall_bool_1 _) PySem.F.entry_object_init ?_ ?_
    · refine codeAny_call_builtin PySem.F.called_bool.plain PySem.F.entry_bool_new (wpAny_of_eq (PySem.F.newCall_bool_1 _) ?_)
      unfold Builtin.«bool.__new__»
      have f1 := PySem.F.conv_sub_bool
      refine wpAny_bind (wpAny_of_eq (a := true) rfl ?_)
      rw [if_neg (by decide)]
      refine wpAny_bind (wpAny_of_eq f1 ?_)
      rw [if_neg (by decide)]
      refine wpAny_bind (wpAny_of_eq (a := [Value.ref a]) (by rfl) ?_)
      dsimp only
      refine wpAny_bind (wpAny_mono tr (fun b s' hq => ?_) fun _ _ e => e)
      exact wpAny_pure ⟨_, rfl, hq⟩
    · rintro obj s₁ ⟨b, rfl, hq⟩
      have hT : s₁.TypeIs (.bool b) "bool" := PyProof.Rows.typeIs_bool' s₁ b
      exact ⟨hT, PySem.F.args_object_init_2 _ _, object_init_meets PySem.F.called_bool.init.lookup PySem.F.called_bool.made PySem.F.newNe_bool X.prog X.w X.A.in1 _ s₁ ⟨hT, rfl, hq⟩⟩
end
end Own
/-! ## slices, lists again and again, lists of truths -/
namespace Rd
open PySem PySem.Spec PyProof.Rows L2
section
variable {σ : L2.St} {H : Hp} {Q : VK} {K : PySem.W.Frag}
theorem sl {r : V → Option Int → Option Int → Hp → VK → Prop} {te : TE} {tl th : TO} (h : te σ H fun x H1 => tl σ H1 fun l H2 => th σ H2 fun u H3 => r x l u H3 Q) : tSl r te tl th σ H Q := h
theorem noPart {R : Option Int → Hp → Prop} (h : R none H) : tNoPart σ H R := h
theorem part {te : TE} {R : Option Int → Hp → Prop} (h : te σ H fun x H1 => ∃ i, x = .int i ∧ R (some i) H1) : tPart te σ H R := h
theorem cut_take {xs : List V} {k : Nat} (h : k ≤ xs.length) : cutV xs none (some (k : Int)) = xs.take k := by
  unfold cutV
  have e0 : HT.sIx xs.length 0 none = 0 := rfl
  have e1 : HT.sIx xs.length xs.length (some (k : Int)) = k := by
    unfold HT.sIx
    have z : ¬ ((k : Int) < 0) := by omega
    simp [z]
    omega
  rw [e0, e1, List.drop_zero, Nat.sub_zero]
theorem dp_bools : ∀ (H : Hp) (bs : List Bool), DpAll K H (bs.map V.bl) (bs.map PyData.bool)
  | _, [] => .nil
  | H, _ :: r => .cons (.bl _) (dp_bools H r)
theorem dp_listB {H : Hp} {a : Addr} {bs : List Bool} (h : SqL K H a (bs.map V.bl)) : Dp K H (.ref a) (.list (bs.map PyData.bool)) := .lst h (dp_bools H bs)
theorem can_bools : ∀ bs : List Bool, PyData.canLayAll0 (bs.map PyData.bool) = true
  | [] => by simp [PyData.canLayAll0]
  | _ :: r => by simp only [List.map_cons, PyData.canLayAll0, PyData.canLay0, can_bools r, Bool.and_self]
theorem dep_bools : ∀ bs : List Bool, PyData.depthAll (bs.map PyData.bool) = 0
  | [] => by simp [PyData.depthAll]
  | _ :: r => by simp only [List.map_cons, PyData.depthAll, PyData.depth, dep_bools r, Nat.max_self]
theorem shaped_listB (bs : List Bool) : SeqAt.shaped (.list (bs.map PyData.bool)) = true := by
  simp only [SeqAt.shaped, PyData.canLay0, can_bools, PyData.depth, dep_bools]
  decide
theorem eqvAll_bools : ∀ as bs : List Bool, PyData.eqvAll (as.map PyData.bool) (bs.map PyData.bool) = decide (as = bs)
  | [], [] => by simp [PyData.eqvAll]
  | [], _ :: _ => by simp [PyData.eqvAll]
  | _ :: _, [] => by simp [PyData.eqvAll]
  | x :: r, y :: q => by
    simp only [List.map_cons, PyData.eqvAll, PyData.eqv, eqvAll_bools r q]
    cases x <;> cases y <;> simp
theorem eqv_listB (as bs : List Bool) : PyData.eqv (.list (as.map PyData.bool)) (.list (bs.map PyData.bool)) = decide (as = bs) := by
  simp only [PyData.eqv, eqvAll_bools]
/-- the parts of a set: a list, two ints, a list -/
def partsD (e r : List Int) (s p : Int) : PyData := .tuple [.list (e.map PyData.int), .int s, .int p, .list (r.map PyData.int)]
theorem dp_parts {H : Hp} {q a b : Addr} {e r : List Int} {s p : Int} (h : SqT K H q [.ref a, .int s, .int p, .ref b]) (ha : SqL K H a (e.map V.int)) (hb : SqL K H b (r.map V.int)) : Dp K H (.ref q) (partsD e r s p) :=
  .tup h (.cons (dp_listI ha) (.cons (.int _) (.cons (.int _) (.cons (dp_listI hb) .nil))))
theorem shaped_parts (e r : List Int) (s p : Int) : SeqAt.shaped (partsD e r s p) = true := by
  simp only [partsD, SeqAt.shaped, PyData.canLay0, PyData.canLayAll0, can_ints, PyData.depth, PyData.depthAll, dep_ints]
  decide
theorem eqv_parts (e r e' r' : List Int) (s p s' p' : Int) : PyData.eqv (partsD e r s p) (partsD e' r' s' p') = decide (e = e' ∧ s = s' ∧ p = p' ∧ r = r') := by
  simp only [partsD, PyData.eqv, PyData.eqvAll, eqvAll_ints, Bool.and_true]
  rw [Bool.eq_iff_iff]
  simp
end
/-! what a while's test asks grows with what is wished -/
def ME (t : TE) : Prop := ∀ (σ : L2.St) (H : Hp) (Q Q' : VK), (∀ v H1, Q v H1 → Q' v H1) → t σ H Q → t σ H Q'
def MT (c : TT) : Prop := ∀ (σ : L2.St) (H : Hp) (R R' : Bool → Hp → Prop), (∀ b H1, R b H1 → R' b H1) → c σ H R → c σ H R'
def MR (f : R2) : Prop := ∀ (x y : V) (H : Hp) (Q Q' : VK), (∀ v H1, Q v H1 → Q' v H1) → f x y H Q → f x y H Q'
def MA (t : TA) : Prop := ∀ (σ : L2.St) (H : Hp) (Q Q' : List V → Hp → Prop), (∀ v H1, Q v H1 → Q' v H1) → t σ H Q → t σ H Q'
theorem mVar {i : Nat} : ME (tVar i) := fun _ _ _ _ h ⟨v, e, q⟩ => ⟨v, e, h _ _ q⟩
theorem mC {v : V} : ME (tC v) := fun _ _ _ _ h q => h _ _ q
theorem mOp {r : R2} {a b : TE} (f : MR r) (ha : ME a) (hb : ME b) : ME (tOp r a b) := fun σ H _ _ h z => ha σ H _ _ (fun x H1 z1 => hb σ H1 _ _ (fun y H2 z2 => f x y H2 _ _ h z2) z1) z
theorem mI0 {g : Int → Int → V} : MR (rI0 g) := fun _ _ _ _ _ h ⟨i, j, e, e', q⟩ => ⟨i, j, e, e', h _ _ q⟩
theorem mI {C : Int → Int → Prop} {g : Int → Int → V} : MR (rI C g) := fun _ _ _ _ _ h ⟨i, j, e, e', c, q⟩ => ⟨i, j, e, e', c, h _ _ q⟩
theorem mIxL {K : PySem.W.Frag} : MR (rIxL K) := fun _ _ _ _ _ h ⟨p, xs, i, v, e, e', s, l, q⟩ => ⟨p, xs, i, v, e, e', s, l, h _ _ q⟩
theorem mEq : MR rEq := fun _ _ _ _ _ h ⟨e, q⟩ => ⟨e, h _ _ q⟩
theorem mNil : MA tNil := fun _ _ _ _ h q => h _ _ q
theorem mCons {a : TE} {t : TA} (ha : ME a) (ht : MA t) : MA (tCons a t) := fun σ H _ _ h z => ha σ H _ _ (fun x H1 z1 => ht σ H1 _ _ (fun vs H2 z2 => h _ _ z2) z1) z
theorem mLen {K : PySem.W.Frag} {t : TA} (ht : MA t) : ME (tCB (fun xs H Q => ∃ p ys, xs = [V.ref p] ∧ (SqL K H p ys ∨ SqT K H p ys) ∧ Q (V.int ys.length) H) t) := fun σ H _ _ h z => ht σ H _ _ (fun vs H1 ⟨p, ys, e, s, q⟩ => ⟨p, ys, e, s, h _ _ q⟩) z
theorem mTest {t : TE} (ht : ME t) : MT (tTest t) := fun σ H _ _ h z => ht σ H _ _ (fun x H1 ⟨k, e, q⟩ => ⟨k, e, h _ _ q⟩) z
theorem mAnd {t u : TT} (ht : MT t) (hu : MT u) : MT (tAnd t u) := fun σ H _ _ h z => ht σ H _ _ (fun b H1 z1 => by
  by_cases hb : b = true
  · rw [if_pos hb] at z1 ⊢
    exact hu σ H1 _ _ h z1
  · rw [if_neg hb] at z1 ⊢
    exact h _ _ z1) z
/-- a field's reading within a comprehension -/
theorem pe_fldK {X : Cx} {K : PySem.W.Frag} {e : PySem.Expr} {f : PySem.Str} {pos : PySem.Pos} {ta : TE} (ek : X.K = K) (h : PE X e ta) (hb : PySem.attributeBase e f X.env (PySem.eval e X.env) = PySem.eval e X.env) : PE X (e.Attribute f pos) (tFld K ta f) := ek ▸ pe_fld h hb
theorem flat_intsL (ns : List Int) : (ns.map V.int).all flatV = true := by
  rw [List.all_eq_true]
  intro v hv
  obtain ⟨n, _, rfl⟩ := List.mem_map.mp hv
  rfl
theorem inV_intsL (i : Int) (ns : List Int) : inV (.int i) (ns.map V.int) = decide (i ∈ ns) := by
  unfold inV
  rw [List.any_map]
  induction ns with
  | nil => rfl
  | cons n ns ih =>
    rw [List.any_cons, ih]
    show (eqV (.int n) (.int i) || _) = _
    have e : eqV (.int n) (.int i) = decide (n = i) := by first | (simp [eqV]; done) | (simp [eqV]; rfl)
    rw [e]
    by_cases h : n = i
    · subst h; simp
    · have h' : ¬ i = n := fun z => h z.symm
      simp [h, h', List.mem_cons]
theorem mapAppL {ns : List Int} {v : Int} : ns.map V.int ++ [V.int v] = (ns ++ [v]).map V.int := by simp
theorem op_inK {X : Cx} {K : PySem.W.Frag} (e : X.K = K) : OpR X (PySem.compareOp .In) (rIn K false) := e ▸ op_in_seq
end Rd
/-! lcm out of math: a global that is a built-in function -/
namespace Lcm
open PySem PySem.Spec PyProof.Rows L2
section
variable {X : Cx} {p pos : Pos} {x : Str} {e : PySem.Expr} {es : List PySem.Expr} {t : TA} {id : String} {r : List V → Hp → VK → Prop}
theorem pe_callGB (hc : CallR X (.builtin id) r) (hg : Gl X x) (hm : X.mg x = some (.builtin id)) (ha : PA X (e :: es) t) (hdb : (x == ("__debug__" : Str)) = false := by decide)
    (he : starEach (e :: es) X.env = (false, eval e X.env) :: starEach es X.env := by rfl) (hpl : (backTo pos (starEach es X.env)).any (·.1) = false := by rfl) : PE X (.Call (.Name x p) (e :: es) [] pos) (tCB r t) := by
  refine ⟨fun pins s σ H Q I h => ?_⟩
  refine wpAny_Call_Name_kw (ld_glob I hg hm ?_ hdb)
  exact PyProof.Rows.callWith_builtin1 (thn (ha.run pos pins s σ H _ I h) fun us s1 ⟨vs, H1, I1, r1, q1⟩ => hc pins s1 σ H1 vs us Q I1 r1 q1) he hpl
def lcmI (a b : Int) : Int := ((a.natAbs.lcm b.natAbs : Nat) : Int)
def rLcm : List V → Hp → VK → Prop := fun vs H Q => ∃ a b : Int, vs = [.int a, .int b] ∧ a.natAbs < 2 ^ 64 ∧ b.natAbs < 2 ^ 64 ∧ Q (.int (lcmI a b)) H
theorem call_lcm : CallR X (.builtin "math.lcm") rLcm := by
  intro pins s σ H vs us Q I r h
  obtain ⟨a, b, rfl, ha, hb, q⟩ := h
  cases r with
  | cons r1 rr =>
    cases rr with
    | cons r2 r3 =>
      cases r3
      obtain ⟨t1, rfl⟩ := r1
      obtain ⟨t2, rfl⟩ := r2
      exact PySem.W.mc_lcm ha hb fun _ => ⟨.int (lcmI a b), H, I.tok _, ⟨_, rfl⟩, q⟩
theorem lcm_pos {a b : Int} (h1 : 1 ≤ a) (h2 : 1 ≤ b) : 1 ≤ lcmI a b := by
  unfold lcmI
  have := Nat.lcm_pos (show 0 < a.natAbs by omega) (show 0 < b.natAbs by omega)
  omega
theorem lcm_mul {a b : Int} (h1 : 1 ≤ a) (h2 : 1 ≤ b) : lcmI a b % a = 0 ∧ lcmI a b % b = 0 := by
  unfold lcmI
  constructor
  · exact Int.emod_eq_zero_of_dvd (Int.natAbs_dvd_natAbs.mp (show a.natAbs ∣ _ from Nat.dvd_lcm_left _ _))
  · exact Int.emod_eq_zero_of_dvd (Int.natAbs_dvd_natAbs.mp (show b.natAbs ∣ _ from Nat.dvd_lcm_right _ _))
theorem lcm_le {a b : Int} (h1 : 1 ≤ a) (h2 : 1 ≤ b) : lcmI a b ≤ a * b := by
  unfold lcmI
  have := PySem.W.mc_lcm_le a.natAbs b.natAbs
  have e : ((a.natAbs * b.natAbs : Nat) : Int) = a * b := by rw [Int.natCast_mul, Int.natAbs_of_nonneg (by omega), Int.natAbs_of_nonneg (by omega)]
  omega
theorem lcm_one {b : Int} (h2 : 1 ≤ b) : lcmI 1 b = b := by
  unfold lcmI
  rw [show (1 : Int).natAbs = 1 from rfl, PySem.W.mc_lcm_one]
  omega
end
end Lcm
/-! list(range(a, b)) -/
namespace Rd
open PySem PySem.Spec PyProof.Rows L2
theorem lrg {ta tb : TE} {σ : L2.St} {H : Hp} {Q : VK} (h : ta σ H fun x H1 => tb σ H1 fun y H2 => ∃ i j, x = V.int i ∧ y = V.int j ∧ RgOk i j ∧ ∀ q, H2 q = none → Q (.ref q) (upd H2 q (.lst (L2.rgV i j)))) : tLstRg (tRg2 ta tb) σ H Q := h
def rgI (a b : Int) : List Int := (List.range (b - a).toNat).map fun i => a + (i : Nat)
theorem rgV_eq (a b : Int) : L2.rgV a b = (rgI a b).map V.int := by unfold L2.rgV rgI; rw [List.map_map]; rfl
theorem rgI_len (a b : Int) : (rgI a b).length = (b - a).toNat := by unfold rgI; rw [List.length_map, List.length_range]
theorem rgI_mem {a b x : Int} : x ∈ rgI a b ↔ a ≤ x ∧ x < b := by
  unfold rgI
  rw [List.mem_map]
  constructor
  · rintro ⟨i, hi, rfl⟩
    rw [List.mem_range] at hi
    omega
  · rintro ⟨h1, h2⟩
    exact ⟨(x - a).toNat, by rw [List.mem_range]; omega, by omega⟩
theorem rgI_cons {a b : Int} (h : a < b) : rgI a b = a :: rgI (a + 1) b := by
  unfold rgI
  rw [show (b - a).toNat = (b - (a + 1)).toNat + 1 by omega, List.range_succ_eq_map, List.map_cons, List.map_map]
  congr 1
  · simp
  · refine List.map_congr_left fun i _ => ?_
    show a + ((i + 1 : Nat) : Int) = a + 1 + (i : Nat)
    omega
theorem rgI_nil {a b : Int} (h : b ≤ a) : rgI a b = [] := by
  unfold rgI
  rw [show (b - a).toNat = 0 by omega]; rfl
end Rd

/-! ## heaps: what a step leaves -/
def Frm (a : Nat) (H H' : L2.Hp) : Prop := ∀ b o, H b = some o → b ≠ a → H' b = some o
section
open PySem L2
variable {H H' H1 H2 : Hp} {a b p : Nat} {o u : HO}
theorem Frm.get (f : Frm a H H') (h : H b = some o) (n : b ≠ a) : H' b = some o := f b o h n
theorem Sget (f : L2.Same H H') (h : H b = some o) : H' b = some o := f b o h
theorem Frm.free (f : Frm a H H') (n : b ≠ a) (h : H' b = none) : H b = none := by
  cases q : H b with
  | none => rfl
  | some o => rw [f b o q n] at h; cases h
theorem Sfree (f : L2.Same H H') (h : H' b = none) : H b = none := L2.Same.free f h
theorem updFree (h : upd H a o b = none) : H b = none := by
  unfold upd at h
  split at h
  · cases h
  · exact h
theorem updGet' (h : H b = some o) (n : b ≠ a) : upd H a u b = some o := by rw [upd_ne n]; exact h
theorem ne_none (h : H b = none) (h' : H a = some o) : a ≠ b := ne_of_none h' h
theorem ne_none' (h : H a = none) (h' : H b = some o) : a ≠ b := (ne_of_none h' h).symm
theorem updFresh (n : H a = none) (h : H b = some o) : upd H a u b = some o := updGet' h (ne_of_none h n)
theorem updMade {x dx : Nat} {v : HO} (n : H x = none) (m : H dx = none) (h : H b = some o) : upd (upd H dx u) x v b = some o := updGet' (updGet' h (ne_of_none h m)) (ne_of_none h n)
theorem Frm.get' (f : Frm a H H') (n : b ≠ a) (h : H b = some o) : H' b = some o := f b o h n
theorem updGet (n : b ≠ a) (h : H b = some o) : upd H a u b = some o := by rw [upd_ne n]; exact h
end

local macro_rules | `(tactic| walk_at "hp") => `(tactic| first
  | with_reducible assumption
  | with_reducible exact L2.upd_same
  | ((with_reducible apply updFresh); (· with_reducible assumption); (· walk_at "hp"))
  | ((with_reducible apply updMade); (· with_reducible assumption); (· with_reducible assumption); (· walk_at "hp"))
  | ((with_reducible apply updGet); (· walk_at "ne"); (· walk_at "hp"))
  | ((with_reducible apply Sget); (· with_reducible assumption); (· walk_at "hp"))
  | ((with_reducible apply Frm.get'); (· with_reducible assumption); (· walk_at "ne"); (· walk_at "hp"))
  | fail "hp")
local macro_rules | `(tactic| walk_at "ne") => `(tactic| first
  | with_reducible assumption
  | exact Ne.symm (by with_reducible assumption)
  | ((with_reducible apply ne_none); (· with_reducible assumption); (· walk_at "hp"))
  | ((with_reducible apply ne_none'); (· with_reducible assumption); (· walk_at "hp"))
  | ((with_reducible apply L2.ne_of); (· walk_at "hp"); (· walk_at "hp"); (· (intro z; cases z)))
  | fail "ne")
local macro_rules | `(tactic| walk_at "vr") => `(tactic| with_unfolding_all rfl)
local macro_rules | `(tactic| walk_at "hpl") => `(tactic| first
  | with_reducible assumption
  | ((with_reducible apply L2.SqL.of); walk_at "hp"))
local macro_rules | `(tactic| walk_at "hpt") => `(tactic| first
  | with_reducible assumption
  | ((with_reducible apply L2.SqT.of); walk_at "hp"))
local macro_rules | `(tactic| walk_at "hpq") => `(tactic| first
  | with_reducible assumption
  | (apply Or.inl; walk_at "hpl")
  | (apply Or.inr; walk_at "hpt"))
local macro_rules | `(tactic| walk_at "sc") => `(tactic| first
  | with_reducible assumption
  | omega
  | decide
  | ((repeat' split) <;> omega))
local macro_rules | `(tactic| walk_at "scp") => `(tactic| (unfold L2.CPow; omega))
local macro_rules | `(tactic| walk_at "ll") => `(tactic| with_unfolding_all exact Nat.le_of_ble_eq_true rfl)
theorem wm {i j : Int} (hi : -(2 ^ 200) < i ∧ i < 2 ^ 200) (hj : -(2 ^ 200) < j ∧ j < 2 ^ 200) : L2.CMulW i j :=
  L2.wide_mul (a := 200) (b := 200) (by omega) (by omega) (by decide) (by decide) (by decide)
theorem wd {i j : Int} (h : 0 < j) (hj : j < 2 ^ 200) : L2.CDivW i j :=
  L2.wide_div (b := 200) h (by omega) (by decide) (by decide)
local macro_rules | `(tactic| walk_at "scm") => `(tactic| exact wm ⟨by walk_at "sc", by walk_at "sc"⟩ ⟨by walk_at "sc", by walk_at "sc"⟩)
local macro_rules | `(tactic| walk_at "scd") => `(tactic| exact wd (by walk_at "sc") (by walk_at "sc"))
local macro_rules | `(tactic| walk_at "clsv") => `(tactic| first | exact L2.ClsV.ty _ | exact L2.ClsV.own _)
local macro_rules | `(tactic| walk_at "kit") => `(tactic| first | with_reducible exact Rd.kit_int_int | with_reducible exact Rd.kit_int_bool | with_reducible exact Rd.kit_bool_bool | with_reducible exact Rd.kit_str_str | with_reducible exact Rd.kit_bool_int | with_reducible exact Rd.kit_str_int | with_reducible exact Rd.kit_none_int | with_reducible exact Rd.kit_tuple_int | with_reducible exact Rd.kit_list_int | with_reducible exact Rd.kit_dict_int | with_reducible exact Rd.kit_str_bool | with_reducible exact Rd.kit_int_str | with_reducible assumption)
local macro_rules | `(tactic| walk_at "nf") => `(tactic| with_reducible assumption)
local macro_rules | `(tactic| walk_at "tyx") => `(tactic| first | exact L2.TyX.base (L2.TyOf.int _) | exact L2.TyX.base (L2.TyOf.bl _) | exact L2.TyX.base L2.TyOf.non | exact L2.TyX.base (L2.TyOf.str _) | ((with_reducible apply Rd.ty_tup); walk_at "hp") | ((with_reducible apply Rd.ty_lst); walk_at "hp"))
local macro_rules | `(tactic| walk_at "frm") => `(tactic| first | (intro b o hb; walk_at "hp") | (intro b o hb hn; walk_at "hp"))
local macro_rules | `(tactic| walk_at "nn") => `(tactic| first
  | with_reducible assumption
  | exact updFree (by with_reducible assumption)
  | exact updFree (updFree (by with_reducible assumption))
  | exact updFree (updFree (updFree (by with_reducible assumption)))
  | exact updFree (updFree (updFree (updFree (by with_reducible assumption))))
  | exact updFree (updFree (updFree (updFree (updFree (by with_reducible assumption)))))
  | exact updFree (updFree (updFree (updFree (updFree (updFree (by with_reducible assumption))))))
  | exact updFree (updFree (updFree (updFree (updFree (updFree (updFree (by with_reducible assumption)))))))
  | exact updFree (updFree (updFree (updFree (updFree (updFree (updFree (updFree (by with_reducible assumption))))))))
  | exact updFree (updFree (updFree (updFree (updFree (updFree (updFree (updFree (updFree (by with_reducible assumption)))))))))
  | exact updFree (updFree (updFree (updFree (updFree (updFree (updFree (updFree (updFree (updFree (by with_reducible assumption))))))))))
  | exact updFree (updFree (updFree (updFree (updFree (updFree (updFree (updFree (updFree (updFree (updFree (by with_reducible assumption)))))))))))
  | exact updFree (updFree (updFree (updFree (updFree (updFree (updFree (updFree (updFree (updFree (updFree (updFree (by with_reducible assumption))))))))))))
  | exact updFree (updFree (updFree (updFree (updFree (updFree (updFree (updFree (updFree (updFree (updFree (updFree (updFree (by with_reducible assumption)))))))))))))
  | exact updFree (updFree (updFree (updFree (updFree (updFree (updFree (updFree (updFree (updFree (updFree (updFree (updFree (updFree (by with_reducible assumption))))))))))))))
  | exact updFree (updFree (updFree (updFree (updFree (updFree (updFree (updFree (updFree (updFree (updFree (updFree (updFree (updFree (updFree (by with_reducible assumption)))))))))))))))
  | exact updFree (updFree (updFree (updFree (updFree (updFree (updFree (updFree (updFree (updFree (updFree (updFree (updFree (updFree (updFree (updFree (by with_reducible assumption))))))))))))))))
  | exact updFree (updFree (updFree (updFree (updFree (updFree (updFree (updFree (updFree (updFree (updFree (updFree (updFree (updFree (updFree (updFree (updFree (by with_reducible assumption)))))))))))))))))
  | exact updFree (updFree (updFree (updFree (updFree (updFree (updFree (updFree (updFree (updFree (updFree (updFree (updFree (updFree (updFree (updFree (updFree (updFree (by with_reducible assumption))))))))))))))))))
  | ((with_reducible apply Sfree); (· with_reducible assumption); (· walk_at "nn")))
local macro_rules | `(tactic| walk_at "em") => `(tactic| first | rfl | (simp only [Int.emod_add_emod, Int.emod_sub_emod, Int.sub_emod_emod, Int.emod_emod]; first | done | rfl | (congr 1; omega)))
local macro_rules | `(tactic| walk_at "dp") => `(tactic| first | ((with_reducible apply Rd.dp_nil); walk_at "hpl") | ((with_reducible apply Rd.dp_listI); walk_at "hpl") | ((with_reducible apply Rd.dp_pair); walk_at "hpt") | ((with_reducible apply L2.Dp.lst); (· walk_at "hpl"); (· walk_at "dpa")) | ((with_reducible apply L2.Dp.tup); (· walk_at "hpt"); (· walk_at "dpa")))
local macro_rules | `(tactic| walk_at "dpt") => `(tactic| first | ((with_reducible apply Rd.dp_pair); (· walk_at "hpt")) | ((with_reducible apply L2.Dp.tup); (· walk_at "hpt"); (· walk_at "dpa")) | fail "dpt")
local macro_rules | `(tactic| walk_at "dpa") => `(tactic| first | with_reducible exact L2.DpAll.nil | ((with_reducible apply L2.DpAll.cons); (· walk_at "dp1"); (· walk_at "dpa")))
local macro_rules | `(tactic| walk_at "dp1") => `(tactic| first | with_reducible exact L2.Dp.int _ | with_reducible exact L2.Dp.bl _ | with_reducible exact L2.Dp.str _ | with_reducible exact L2.Dp.non | walk_at "dp")
local macro_rules | `(tactic| walk_at "shp") => `(tactic| first | with_reducible exact Rd.shaped_pair _ _ | with_reducible exact Rd.shaped_listI _ | with_reducible exact Rd.shaped_nil | (simp only [PySem.SeqAt.shaped, PySem.PyData.canLay0, PySem.PyData.canLayAll0, PySem.PyData.depth, PySem.PyData.depthAll]; rfl))
local macro_rules | `(tactic| walk_at "ty0") => `(tactic| exact Own.ty_int)
local macro_rules | `(tactic| walk_at "sfl") => `(tactic| first | with_unfolding_all exact Nat.le_of_ble_eq_true rfl | ((refine Rd.lput ?_); (repeat refine Rd.lputs ?_); with_unfolding_all exact Nat.le_of_ble_eq_true rfl))
local macro_rules | `(tactic| walk_at "ixn") => `(tactic| first | with_unfolding_all rfl | decide)
local macro_rules | `(tactic| walk_at "bT") => `(tactic| first | (simp only [PySem.PyData.eqv, PySem.PyData.eqvAll, beq_self_eq_true, Bool.and_self]; done) | (exact decide_eq_true rfl) | (simp only [L2.V.int.injEq, L2.V.bl.injEq, decide_eq_true_eq]; omega) | with_unfolding_all rfl | with_reducible assumption | exact decide_eq_true (by walk_at "sc"))
local macro_rules | `(tactic| walk_at "bF") => `(tactic| first | (simp only [← Int.sub_emod, decide_true, Bool.not_true]; done) | (simp only [L2.V.int.injEq, Int.emod_eq_emod_iff_emod_sub_eq_zero, eq_self, decide_true, Bool.true_and, Bool.not_true]; done) | (simp only [Rd.eqv_pairV, Rd.eqv_listI, Rd.eqv_nil, Bool.and_self, Bool.not_true, decide_true]; done) | with_unfolding_all rfl | with_reducible assumption | exact decide_eq_false (by walk_at "sc") | (simp only [L2.V.int.injEq, L2.V.bl.injEq, decide_eq_false_iff_not, Bool.not_eq_false', Bool.not_eq_eq_eq_not, Bool.not_false, decide_eq_true_eq]; omega) | (simp only [L2.V.int.injEq, Bool.and_eq_false_iff, decide_eq_false_iff_not]; first | omega | exact Or.inl (by omega)))

/-! ## the law's source of numbers: two ints in a list -/
section
open PySem L2
/-- what stands in the list -/
def SrcO (o : HO) : Prop := ∃ x y : Int, o = .lst [.int x, .int y] ∧ 0 ≤ x ∧ 0 ≤ y ∧ y < 2147483647
/-- a draw -/
abbrev spDraw : Sp := fun vs H Q _ => ∃ (a : Addr) (o : HO) (m : Int), vs = [.ref a, .int m] ∧ H a = some o ∧ SrcO o ∧ 0 < m ∧ m < 2 ^ 190 ∧
  ∀ (d : Int) (o' : HO), 0 ≤ d → d < m → SrcO o' → Q (.int d) (upd H a o')
/-- a fresh source -/
abbrev spSource (K : PySem.W.Frag) : Sp := fun vs H Q _ => ∃ (a : Addr) (ns : List Int) (t : Int), vs = [.ref a, .int t] ∧ SqL K H a (ns.map V.int) ∧ 0 ≤ t ∧ t < 1000000 ∧
  ∀ (p : Addr) (o : HO), H p = none → SrcO o → Q (.ref p) (upd H p o)
theorem sq_nonneg {y : Int} (h : 0 ≤ y) : 0 ≤ y * y := Int.mul_nonneg h h
theorem atI_map {ns : List Int} {t : Int} (h0 : 0 ≤ t) (h : t < (ns.length : Int)) : ∃ z : Int, atI (ns.map V.int) t = some (.int z) := by
  obtain ⟨j, rfl⟩ : ∃ j : Nat, t = (j : Int) := ⟨t.toNat, by omega⟩
  have hj : j < ns.length := by omega
  exact ⟨ns[j], atI_nat (by rw [List.getElem?_map, List.getElem?_eq_getElem hj]; rfl)⟩
/-- an item of a list of ints at a drawn place: what all its items keep -/
theorem pickI {ns : List Int} {P : Int → Prop} (hP : ∀ n ∈ ns, P n) {d : Int} (h0 : 0 ≤ d) (h : d < (ns.length : Int)) : ∃ n : Int, atI (ns.map V.int) d = some (.int n) ∧ P n := by
  obtain ⟨j, rfl⟩ : ∃ j : Nat, d = (j : Int) := ⟨d.toNat, by omega⟩
  have hj : j < ns.length := by omega
  exact ⟨ns[j], atI_nat (by rw [List.getElem?_map, List.getElem?_eq_getElem hj]; rfl), hP _ (List.getElem_mem hj)⟩
end

/-! ## the head: what the top leaves, looked at in one run -/
namespace Hd
open PySem PySem.Spec PyProof.Rows L2
/-- a def: its place (read off what is looked at), its two names, its text, its defaults -/
structure Df where
  ad : PySem.W.Frag → Addr
  nm : Str
  ql : Str
  st : Stmt
  dv : List V
  kw : List (Str × V)
def Df.see (K : PySem.W.Frag) (d : Df) : He.FnW := match K.lookup (d.ad K) with
  | some ⟨_, _, .func z, _⟩ => some (z.name, z.qualname, z.params, z.body, z.scope, z.globals, z.closure, z.builtins)
  | _ => none
def Df.due (d : Df) : He.FnW := some (d.nm, d.ql, defArgs d.st, .stmts (defBody d.st), defScope d.st, mainGlobals, [], builtinsNs)
def Df.good (K : PySem.W.Frag) (d : Df) : Bool := (match K.lookup (d.ad K) with
  | some ⟨_, _, .func z, _⟩ => (He.dflB K z.defaults d.dv && He.kwdB K z.kwdefaults d.kw) && PySem.W.codeIn K z.code d.ql
  | _ => false) && PySem.W.keepIn K (.ref (d.ad K))
theorem Df.fn {K : PySem.W.Frag} {d : Df} (s : d.see K = d.due) (g : d.good K = true) : ∃ fd, FunD K d.nm d.ql (defArgs d.st) (defBody d.st) (defScope d.st) d.dv d.kw (d.ad K) fd := by
  obtain ⟨g1, g2⟩ := He.ba g
  unfold Df.see at s
  cases e : K.lookup (d.ad K) with
  | none => simp only [e] at g1; cases g1
  | some o =>
    obtain ⟨c, dd, dt, sl⟩ := o
    cases dt with
    | func z =>
      simp only [e] at g1 s
      obtain ⟨g3, g4⟩ := He.ba g1
      obtain ⟨g5, g6⟩ := He.ba g3
      obtain ⟨a1, a2, a3, a4, a5, a6, a7, a8, a9, a10, a11, a12, a13, a14, a15⟩ := z
      simp only [Df.due, Option.some.injEq, Prod.mk.injEq] at s
      obtain ⟨h1, h2, h3, h4, h5, h6, h7, h8⟩ := s
      subst h1 h2 h3 h4 h5 h6 h7 h8
      exact ⟨_, ⟨c, dd, a8, a9, a10, a11, a12, a13, a14, sl, rfl, e, g4, He.dflB_ok g5, He.kwdB_ok g6⟩, g2⟩
    | _ => simp only [e] at g1; cases g1
theorem plain {K : PySem.W.Frag} {x q : Str} {st : Stmt} {f : Addr} {fd : FuncData} (F : FunD K x q (defArgs st) (defBody st) (defScope st) [] [] f fd) : Fun K x q st f fd := by
  obtain ⟨⟨oc, od, dV, kV, doc, pm, an, cdv, ct, sl, e, l, c, hd, _⟩, kp⟩ := F
  rcases hd with ⟨_, z⟩ | ⟨z, _⟩
  · subst z; exact ⟨⟨oc, od, kV, doc, pm, an, cdv, ct, sl, e, l, c⟩, kp⟩
  · exact absurd rfl z
/-! what objects name, layer by layer: no code objects, no classes' bases -/
def refs (o : Obj) : List Addr := match o.cls with
  | .type "code" => []
  | _ => match o.data with
    | .seq its _ => its.toList.flatMap He.refV
    | .dict es _ => es.toList.flatMap fun e => He.refV e.val
    | .func z => He.refV z.code ++ (He.refV z.defaults ++ He.refV z.kwdefaults)
    | .cls c => [c.ns]
    | .fields vs => vs.toList.flatMap He.refV
    | _ => []
def nxt (g : Addr → Option Obj) (l : List Addr) : List Addr := l.flatMap fun a => match g a with
  | some o => refs o
  | none => []
def layers (g : Addr → Option Obj) : Nat → List Addr → List Addr
  | 0, l => l
  | n + 1, l => l ++ layers g n (nxt g l)
def part (n : Nat) (g : Addr → Option Obj) : PySem.W.Frag := He.frG g (layers g n [mainGlobals])
/-- the part, its spine and addresses computed ahead of what follows -/
def pin {α : Type} : PySem.W.Frag → (PySem.W.Frag → α) → α
  | [], k => k []
  | (a, o) :: r, k => HandSHeadRun.frNat a fun a => pin r fun r => k ((a, o) :: r)
theorem pin_eq {α : Type} : ∀ (l : PySem.W.Frag) (k : PySem.W.Frag → α), pin l k = k l
  | [], _ => rfl
  | (a, o) :: r, k => by
    show HandSHeadRun.frNat a (fun a => pin r fun r => k ((a, o) :: r)) = _
    rw [HandSHeadRun.frNat_eq, pin_eq r]
abbrev Al : Type := Bool × List He.FnW × List (Option (List (Option (Str × Int))))
def tell (fn : List Df) (ts : List He.Tab) (ex : PySem.W.Frag → Bool) (K : PySem.W.Frag) : Al := (ex K && fn.all fun d => d.good K, fn.map fun d => d.see K, ts.map fun t => He.dicW K (t.1 K))
def told (fn : List Df) (ts : List He.Tab) (w : World) : Al := (true, fn.map Df.due, ts.map fun t => some (He.keysIn w.params t.2))
def hook (n : Nat) (fn : List Df) (ts : List He.Tab) (ex : PySem.W.Frag → Bool) : PySem.W.Hook where
  α := Al
  obs := fun s => tell fn ts ex (part n s.heap.get?)
  val := fun w => told fn ts w
  says := fun w h => ∃ K : PySem.W.Frag, K.In h ∧ tell fn ts ex K = told fn ts w
  of := fun _ _ e => ⟨_, He.frG_in, e⟩
  keeps := fun _ _ _ ⟨K, hK, c⟩ k => ⟨K, PySem.W.Frag.In.keeps hK k, c⟩
def ob (n : Nat) (fn : List Df) (ts : List He.Tab) (ex : PySem.W.Frag → Bool) (s : PySem.W.SharedT) : Al := pin (part n (HandSHeadRun.getT s)) (tell fn ts ex)
theorem ob_eq {n : Nat} {fn : List Df} {ts : List He.Tab} {ex : PySem.W.Frag → Bool} (s : PySem.W.SharedT) : ob n fn ts ex s = (hook n fn ts ex).obs s.abs := by
  have e : HandSHeadRun.getT s = s.abs.heap.get? := funext (HandSHeadRun.getT_eq s)
  unfold ob
  rw [pin_eq, e]
  rfl
section
variable {fn : List Df} {ts : List He.Tab} {ex : PySem.W.Frag → Bool} {w : World} {K : PySem.W.Frag}
theorem exOf (c : tell fn ts ex K = told fn ts w) : ex K = true := (He.ba (congrArg (fun z : Al => z.1) c)).1
theorem fnOf (c : tell fn ts ex K = told fn ts w) (i : Nat) {d : Df} (h : fn[i]? = some d) : ∃ fd, FunD K d.nm d.ql (defArgs d.st) (defBody d.st) (defScope d.st) d.dv d.kw (d.ad K) fd := by
  have c2 := (He.ba (show (ex K && fn.all fun d => d.good K) = true from congrArg (fun z : Al => z.1) c)).2
  have e : fn.map (fun d => d.see K) = fn.map Df.due := congrArg (fun z : Al => z.2.1) c
  have e2 := congrArg (fun l : List He.FnW => l[i]?) e
  simp only [List.getElem?_map, h, Option.map_some, Option.some.injEq] at e2
  exact Df.fn e2 (List.all_eq_true.mp c2 d (List.mem_of_getElem? h))
theorem tabOf (c : tell fn ts ex K = told fn ts w) (i : Nat) {t : He.Tab} (h : ts[i]? = some t) : ∃ es n, KDict K w (t.1 K) es n := by
  have e : ts.map (fun t => He.dicW K (t.1 K)) = ts.map fun t => some (He.keysIn w.params t.2) := congrArg (fun z : Al => z.2.2) c
  have e2 := congrArg (fun l : List (Option (List (Option (Str × Int)))) => l[i]?) e
  simp only [List.getElem?_map, h, Option.map_some, Option.some.injEq] at e2
  exact He.dicW_ok e2
end
/-! addresses and values off what is looked at -/
def adr (o : Option (Option Value)) : Addr := match o with
  | some (some (.ref a)) => a
  | _ => 0
def opt (o : Option (Option Value)) : Option Value := match o with
  | some v => v
  | none => none
def tok (o : Option (Option Value)) : Tok := match o with
  | some (some (.int _ t)) => t
  | some (some (.str _ t)) => t
  | _ => 0
def rec1 (o : Option (List Value)) : Addr := match o with
  | some (.ref a :: _) => a
  | _ => 0
def recR (o : Option (List Value)) : List Value := match o with
  | some (_ :: r) => r
  | _ => []
def stA (o : Option PySem.W.CFound) : Addr := match o with
  | some (.get _ (.ref a) _ _) => a
  | _ => 0
def stB (o : Option PySem.W.CFound) (C : Addr) : Bool := match o with
  | some (.get (.builtin b) (.ref _) .none (.ref c)) => decide (b = "staticmethod.__get__") && decide (c = C)
  | _ => false
theorem stB_ok {o : Option PySem.W.CFound} {C : Addr} (h : stB o C = true) : o = some (.get (.builtin "staticmethod.__get__") (.ref (stA o)) .none (.ref C)) := by
  unfold stB at h
  split at h
  · obtain ⟨h1, h2⟩ := He.ba h
    rw [of_decide_eq_true h1, of_decide_eq_true h2]
    rfl
  · cases h
def tupB (K : PySem.W.Frag) (a : Addr) (vs : List V) : Bool := match K.lookup a with
  | some ⟨.type c, _, .seq its _, _⟩ => decide (c = "tuple") && (decide (its.size ≤ sizeLine) && He.relAll vs its.toList)
  | _ => false
theorem tupB_ok {K : PySem.W.Frag} {a : Addr} {vs : List V} (h : tupB K a vs = true) : ∀ H : Hp, SqT K H a vs := by
  intro H
  unfold tupB at h
  split at h
  · rename_i c d its n sl e
    obtain ⟨h1, h2⟩ := He.ba h
    obtain ⟨h3, h4⟩ := He.ba h2
    exact .inr ⟨_, its, n, e, congrArg Value.type (of_decide_eq_true h1), rfl, of_decide_eq_true h3, He.relAll_ok h4⟩
  · cases h
def noR (o : Option Value) : Bool := match o with
  | none => true
  | some (.ref _) => true
  | _ => false
theorem noR_ok {o : Option Value} (h : noR o = true) : o = none ∨ ∃ g : Addr, o = some (.ref g) := by
  unfold noR at h
  split at h
  · exact .inl rfl
  · exact .inr ⟨_, rfl⟩
  · cases h
end Hd

namespace Pk60
open PySem L2
def top (i : Nat) : Stmt := PySem.Challenge.pw_ringindexes_k60_sets_of_lags.main.body.getD i (.Pass ⟨0, 0, 0, 0⟩)
abbrev s_has_outside : Stmt := top 13
abbrev s_is_whole : Stmt := top 16
abbrev s_is_whole_from : Stmt := top 17
abbrev s_is_word_of : Stmt := top 18
abbrev s_is_size : Stmt := top 19
abbrev s_check_size : Stmt := top 20
abbrev s_is_ascending : Stmt := top 27
abbrev s_check_parts : Stmt := top 26
abbrev s_least_start : Stmt := top 30
abbrev s_marks_of : Stmt := top 28
abbrev s_shortest : Stmt := top 29
abbrev s_SizeSetu__initu_ : Stmt := inClass (top 25) 0
abbrev s_SizeSet_start : Stmt := inClass (top 25) 2
abbrev s_SizeSet_period : Stmt := inClass (top 25) 3
abbrev s_SizeSetu__containsu_ : Stmt := inClass (top 25) 5
abbrev s_common_parts : Stmt := top 32
abbrev s_SizeSetu__leu_ : Stmt := inClass (top 25) 8
abbrev s_Formu__initu_ : Stmt := inClass (top 36) 0
abbrev s_form_at : Stmt := top 37
abbrev s_Scheme_wrap : Stmt := inClass (top 69) 1
abbrev s_wrap_at : Stmt := top 47
abbrev s_modulus_of : Stmt := top 46
abbrev s_Beliefu__initu_ : Stmt := inClass (top 51) 0
abbrev s_Belief_believed : Stmt := inClass (top 51) 1
abbrev s_Belief_number_right : Stmt := inClass (top 51) 4
abbrev s_Belief_place_right : Stmt := inClass (top 51) 5
abbrev s_Beliefu__boolu_ : Stmt := inClass (top 51) 6
abbrev s_Scheme_slot : Stmt := inClass (top 69) 3
abbrev s_Scheme_when : Stmt := inClass (top 69) 9
abbrev s_log_modulus : Stmt := top 52
abbrev s_check_lag : Stmt := top 53
abbrev s_belief_of : Stmt := top 54
abbrev s_short_modulus : Stmt := top 57
abbrev s_right_lags : Stmt := top 55
abbrev s_place_lags : Stmt := top 56
abbrev s_is_small_form : Stmt := top 74
abbrev s_is_full : Stmt := top 75
abbrev s_is_wrap : Stmt := top 73
abbrev s_is_part : Stmt := top 72
abbrev s_first_wrong : Stmt := top 71
abbrev s_Schemeu__initu_ : Stmt := inClass (top 69) 0
abbrev s_l_mixed : Stmt := top 83
abbrev s_l_pool : Stmt := top 84
abbrev s_l_draw : Stmt := top 85
abbrev s_l_wide : Stmt := top 86
abbrev s_l_made : Stmt := top 87
abbrev s_l_power : Stmt := top 89
abbrev s_l_setting : Stmt := top 88
abbrev s_l_greater : Stmt := top 90
abbrev s_l_both_long : Stmt := top 91
abbrev s_law : Stmt := top 92
theorem q_early_early_marks : ¬ (("_early" : Str) = "_early_marks") := by decide +kernel
theorem q_early_lag : ¬ (("_early" : Str) = "_lag") := by decide +kernel
theorem q_early_modulus : ¬ (("_early" : Str) = "_modulus") := by decide +kernel
theorem q_early_n : ¬ (("_early" : Str) = "_n") := by decide +kernel
theorem q_early_parts : ¬ (("_early" : Str) = "_parts") := by decide +kernel
theorem q_early_period : ¬ (("_early" : Str) = "_period") := by decide +kernel
theorem q_early_rest_marks : ¬ (("_early" : Str) = "_rest_marks") := by decide +kernel
theorem q_early_rests : ¬ (("_early" : Str) = "_rests") := by decide +kernel
theorem q_early_start : ¬ (("_early" : Str) = "_start") := by decide +kernel
theorem q_early_base : ¬ (("_early" : Str) = "base") := by decide +kernel
theorem q_early_least : ¬ (("_early" : Str) = "least") := by decide +kernel
theorem q_early_slope : ¬ (("_early" : Str) = "slope") := by decide +kernel
theorem q_early_marks_early : ¬ (("_early_marks" : Str) = "_early") := by decide +kernel
theorem q_early_marks_lag : ¬ (("_early_marks" : Str) = "_lag") := by decide +kernel
theorem q_early_marks_modulus : ¬ (("_early_marks" : Str) = "_modulus") := by decide +kernel
theorem q_early_marks_n : ¬ (("_early_marks" : Str) = "_n") := by decide +kernel
theorem q_early_marks_parts : ¬ (("_early_marks" : Str) = "_parts") := by decide +kernel
theorem q_early_marks_period : ¬ (("_early_marks" : Str) = "_period") := by decide +kernel
theorem q_early_marks_rest_marks : ¬ (("_early_marks" : Str) = "_rest_marks") := by decide +kernel
theorem q_early_marks_rests : ¬ (("_early_marks" : Str) = "_rests") := by decide +kernel
theorem q_early_marks_start : ¬ (("_early_marks" : Str) = "_start") := by decide +kernel
theorem q_early_marks_base : ¬ (("_early_marks" : Str) = "base") := by decide +kernel
theorem q_early_marks_least : ¬ (("_early_marks" : Str) = "least") := by decide +kernel
theorem q_early_marks_slope : ¬ (("_early_marks" : Str) = "slope") := by decide +kernel
theorem q_lag_early : ¬ (("_lag" : Str) = "_early") := by decide +kernel
theorem q_lag_early_marks : ¬ (("_lag" : Str) = "_early_marks") := by decide +kernel
theorem q_lag_modulus : ¬ (("_lag" : Str) = "_modulus") := by decide +kernel
theorem q_lag_n : ¬ (("_lag" : Str) = "_n") := by decide +kernel
theorem q_lag_parts : ¬ (("_lag" : Str) = "_parts") := by decide +kernel
theorem q_lag_period : ¬ (("_lag" : Str) = "_period") := by decide +kernel
theorem q_lag_rest_marks : ¬ (("_lag" : Str) = "_rest_marks") := by decide +kernel
theorem q_lag_rests : ¬ (("_lag" : Str) = "_rests") := by decide +kernel
theorem q_lag_start : ¬ (("_lag" : Str) = "_start") := by decide +kernel
theorem q_lag_base : ¬ (("_lag" : Str) = "base") := by decide +kernel
theorem q_lag_least : ¬ (("_lag" : Str) = "least") := by decide +kernel
theorem q_lag_slope : ¬ (("_lag" : Str) = "slope") := by decide +kernel
theorem q_modulus_early : ¬ (("_modulus" : Str) = "_early") := by decide +kernel
theorem q_modulus_early_marks : ¬ (("_modulus" : Str) = "_early_marks") := by decide +kernel
theorem q_modulus_lag : ¬ (("_modulus" : Str) = "_lag") := by decide +kernel
theorem q_modulus_n : ¬ (("_modulus" : Str) = "_n") := by decide +kernel
theorem q_modulus_parts : ¬ (("_modulus" : Str) = "_parts") := by decide +kernel
theorem q_modulus_period : ¬ (("_modulus" : Str) = "_period") := by decide +kernel
theorem q_modulus_rest_marks : ¬ (("_modulus" : Str) = "_rest_marks") := by decide +kernel
theorem q_modulus_rests : ¬ (("_modulus" : Str) = "_rests") := by decide +kernel
theorem q_modulus_start : ¬ (("_modulus" : Str) = "_start") := by decide +kernel
theorem q_modulus_base : ¬ (("_modulus" : Str) = "base") := by decide +kernel
theorem q_modulus_least : ¬ (("_modulus" : Str) = "least") := by decide +kernel
theorem q_modulus_slope : ¬ (("_modulus" : Str) = "slope") := by decide +kernel
theorem q_n_early : ¬ (("_n" : Str) = "_early") := by decide +kernel
theorem q_n_early_marks : ¬ (("_n" : Str) = "_early_marks") := by decide +kernel
theorem q_n_lag : ¬ (("_n" : Str) = "_lag") := by decide +kernel
theorem q_n_modulus : ¬ (("_n" : Str) = "_modulus") := by decide +kernel
theorem q_n_parts : ¬ (("_n" : Str) = "_parts") := by decide +kernel
theorem q_n_period : ¬ (("_n" : Str) = "_period") := by decide +kernel
theorem q_n_rest_marks : ¬ (("_n" : Str) = "_rest_marks") := by decide +kernel
theorem q_n_rests : ¬ (("_n" : Str) = "_rests") := by decide +kernel
theorem q_n_start : ¬ (("_n" : Str) = "_start") := by decide +kernel
theorem q_n_base : ¬ (("_n" : Str) = "base") := by decide +kernel
theorem q_n_least : ¬ (("_n" : Str) = "least") := by decide +kernel
theorem q_n_slope : ¬ (("_n" : Str) = "slope") := by decide +kernel
theorem q_parts_early : ¬ (("_parts" : Str) = "_early") := by decide +kernel
theorem q_parts_early_marks : ¬ (("_parts" : Str) = "_early_marks") := by decide +kernel
theorem q_parts_lag : ¬ (("_parts" : Str) = "_lag") := by decide +kernel
theorem q_parts_modulus : ¬ (("_parts" : Str) = "_modulus") := by decide +kernel
theorem q_parts_n : ¬ (("_parts" : Str) = "_n") := by decide +kernel
theorem q_parts_period : ¬ (("_parts" : Str) = "_period") := by decide +kernel
theorem q_parts_rest_marks : ¬ (("_parts" : Str) = "_rest_marks") := by decide +kernel
theorem q_parts_rests : ¬ (("_parts" : Str) = "_rests") := by decide +kernel
theorem q_parts_start : ¬ (("_parts" : Str) = "_start") := by decide +kernel
theorem q_parts_base : ¬ (("_parts" : Str) = "base") := by decide +kernel
theorem q_parts_least : ¬ (("_parts" : Str) = "least") := by decide +kernel
theorem q_parts_slope : ¬ (("_parts" : Str) = "slope") := by decide +kernel
theorem q_period_early : ¬ (("_period" : Str) = "_early") := by decide +kernel
theorem q_period_early_marks : ¬ (("_period" : Str) = "_early_marks") := by decide +kernel
theorem q_period_lag : ¬ (("_period" : Str) = "_lag") := by decide +kernel
theorem q_period_modulus : ¬ (("_period" : Str) = "_modulus") := by decide +kernel
theorem q_period_n : ¬ (("_period" : Str) = "_n") := by decide +kernel
theorem q_period_parts : ¬ (("_period" : Str) = "_parts") := by decide +kernel
theorem q_period_rest_marks : ¬ (("_period" : Str) = "_rest_marks") := by decide +kernel
theorem q_period_rests : ¬ (("_period" : Str) = "_rests") := by decide +kernel
theorem q_period_start : ¬ (("_period" : Str) = "_start") := by decide +kernel
theorem q_period_base : ¬ (("_period" : Str) = "base") := by decide +kernel
theorem q_period_least : ¬ (("_period" : Str) = "least") := by decide +kernel
theorem q_period_slope : ¬ (("_period" : Str) = "slope") := by decide +kernel
theorem q_rest_marks_early : ¬ (("_rest_marks" : Str) = "_early") := by decide +kernel
theorem q_rest_marks_early_marks : ¬ (("_rest_marks" : Str) = "_early_marks") := by decide +kernel
theorem q_rest_marks_lag : ¬ (("_rest_marks" : Str) = "_lag") := by decide +kernel
theorem q_rest_marks_modulus : ¬ (("_rest_marks" : Str) = "_modulus") := by decide +kernel
theorem q_rest_marks_n : ¬ (("_rest_marks" : Str) = "_n") := by decide +kernel
theorem q_rest_marks_parts : ¬ (("_rest_marks" : Str) = "_parts") := by decide +kernel
theorem q_rest_marks_period : ¬ (("_rest_marks" : Str) = "_period") := by decide +kernel
theorem q_rest_marks_rests : ¬ (("_rest_marks" : Str) = "_rests") := by decide +kernel
theorem q_rest_marks_start : ¬ (("_rest_marks" : Str) = "_start") := by decide +kernel
theorem q_rest_marks_base : ¬ (("_rest_marks" : Str) = "base") := by decide +kernel
theorem q_rest_marks_least : ¬ (("_rest_marks" : Str) = "least") := by decide +kernel
theorem q_rest_marks_slope : ¬ (("_rest_marks" : Str) = "slope") := by decide +kernel
theorem q_rests_early : ¬ (("_rests" : Str) = "_early") := by decide +kernel
theorem q_rests_early_marks : ¬ (("_rests" : Str) = "_early_marks") := by decide +kernel
theorem q_rests_lag : ¬ (("_rests" : Str) = "_lag") := by decide +kernel
theorem q_rests_modulus : ¬ (("_rests" : Str) = "_modulus") := by decide +kernel
theorem q_rests_n : ¬ (("_rests" : Str) = "_n") := by decide +kernel
theorem q_rests_parts : ¬ (("_rests" : Str) = "_parts") := by decide +kernel
theorem q_rests_period : ¬ (("_rests" : Str) = "_period") := by decide +kernel
theorem q_rests_rest_marks : ¬ (("_rests" : Str) = "_rest_marks") := by decide +kernel
theorem q_rests_start : ¬ (("_rests" : Str) = "_start") := by decide +kernel
theorem q_rests_base : ¬ (("_rests" : Str) = "base") := by decide +kernel
theorem q_rests_least : ¬ (("_rests" : Str) = "least") := by decide +kernel
theorem q_rests_slope : ¬ (("_rests" : Str) = "slope") := by decide +kernel
theorem q_start_early : ¬ (("_start" : Str) = "_early") := by decide +kernel
theorem q_start_early_marks : ¬ (("_start" : Str) = "_early_marks") := by decide +kernel
theorem q_start_lag : ¬ (("_start" : Str) = "_lag") := by decide +kernel
theorem q_start_modulus : ¬ (("_start" : Str) = "_modulus") := by decide +kernel
theorem q_start_n : ¬ (("_start" : Str) = "_n") := by decide +kernel
theorem q_start_parts : ¬ (("_start" : Str) = "_parts") := by decide +kernel
theorem q_start_period : ¬ (("_start" : Str) = "_period") := by decide +kernel
theorem q_start_rest_marks : ¬ (("_start" : Str) = "_rest_marks") := by decide +kernel
theorem q_start_rests : ¬ (("_start" : Str) = "_rests") := by decide +kernel
theorem q_start_base : ¬ (("_start" : Str) = "base") := by decide +kernel
theorem q_start_least : ¬ (("_start" : Str) = "least") := by decide +kernel
theorem q_start_slope : ¬ (("_start" : Str) = "slope") := by decide +kernel
theorem q_base_early : ¬ (("base" : Str) = "_early") := by decide +kernel
theorem q_base_early_marks : ¬ (("base" : Str) = "_early_marks") := by decide +kernel
theorem q_base_lag : ¬ (("base" : Str) = "_lag") := by decide +kernel
theorem q_base_modulus : ¬ (("base" : Str) = "_modulus") := by decide +kernel
theorem q_base_n : ¬ (("base" : Str) = "_n") := by decide +kernel
theorem q_base_parts : ¬ (("base" : Str) = "_parts") := by decide +kernel
theorem q_base_period : ¬ (("base" : Str) = "_period") := by decide +kernel
theorem q_base_rest_marks : ¬ (("base" : Str) = "_rest_marks") := by decide +kernel
theorem q_base_rests : ¬ (("base" : Str) = "_rests") := by decide +kernel
theorem q_base_start : ¬ (("base" : Str) = "_start") := by decide +kernel
theorem q_base_least : ¬ (("base" : Str) = "least") := by decide +kernel
theorem q_base_slope : ¬ (("base" : Str) = "slope") := by decide +kernel
theorem q_least_early : ¬ (("least" : Str) = "_early") := by decide +kernel
theorem q_least_early_marks : ¬ (("least" : Str) = "_early_marks") := by decide +kernel
theorem q_least_lag : ¬ (("least" : Str) = "_lag") := by decide +kernel
theorem q_least_modulus : ¬ (("least" : Str) = "_modulus") := by decide +kernel
theorem q_least_n : ¬ (("least" : Str) = "_n") := by decide +kernel
theorem q_least_parts : ¬ (("least" : Str) = "_parts") := by decide +kernel
theorem q_least_period : ¬ (("least" : Str) = "_period") := by decide +kernel
theorem q_least_rest_marks : ¬ (("least" : Str) = "_rest_marks") := by decide +kernel
theorem q_least_rests : ¬ (("least" : Str) = "_rests") := by decide +kernel
theorem q_least_start : ¬ (("least" : Str) = "_start") := by decide +kernel
theorem q_least_base : ¬ (("least" : Str) = "base") := by decide +kernel
theorem q_least_slope : ¬ (("least" : Str) = "slope") := by decide +kernel
theorem q_slope_early : ¬ (("slope" : Str) = "_early") := by decide +kernel
theorem q_slope_early_marks : ¬ (("slope" : Str) = "_early_marks") := by decide +kernel
theorem q_slope_lag : ¬ (("slope" : Str) = "_lag") := by decide +kernel
theorem q_slope_modulus : ¬ (("slope" : Str) = "_modulus") := by decide +kernel
theorem q_slope_n : ¬ (("slope" : Str) = "_n") := by decide +kernel
theorem q_slope_parts : ¬ (("slope" : Str) = "_parts") := by decide +kernel
theorem q_slope_period : ¬ (("slope" : Str) = "_period") := by decide +kernel
theorem q_slope_rest_marks : ¬ (("slope" : Str) = "_rest_marks") := by decide +kernel
theorem q_slope_rests : ¬ (("slope" : Str) = "_rests") := by decide +kernel
theorem q_slope_start : ¬ (("slope" : Str) = "_start") := by decide +kernel
theorem q_slope_base : ¬ (("slope" : Str) = "base") := by decide +kernel
theorem q_slope_least : ¬ (("slope" : Str) = "least") := by decide +kernel
local macro_rules | `(tactic| walk_at "lk") => `(tactic| first | with_unfolding_all rfl | (simp only [List.lookup, L2.putF, beq_iff_eq, beq_self_eq_true, q_early_early_marks, (beq_eq_false_iff_ne.mpr q_early_early_marks), q_early_lag, (beq_eq_false_iff_ne.mpr q_early_lag), q_early_modulus, (beq_eq_false_iff_ne.mpr q_early_modulus), q_early_n, (beq_eq_false_iff_ne.mpr q_early_n), q_early_parts, (beq_eq_false_iff_ne.mpr q_early_parts), q_early_period, (beq_eq_false_iff_ne.mpr q_early_period), q_early_rest_marks, (beq_eq_false_iff_ne.mpr q_early_rest_marks), q_early_rests, (beq_eq_false_iff_ne.mpr q_early_rests), q_early_start, (beq_eq_false_iff_ne.mpr q_early_start), q_early_base, (beq_eq_false_iff_ne.mpr q_early_base), q_early_least, (beq_eq_false_iff_ne.mpr q_early_least), q_early_slope, (beq_eq_false_iff_ne.mpr q_early_slope), q_early_marks_early, (beq_eq_false_iff_ne.mpr q_early_marks_early), q_early_marks_lag, (beq_eq_false_iff_ne.mpr q_early_marks_lag), q_early_marks_modulus, (beq_eq_false_iff_ne.mpr q_early_marks_modulus), q_early_marks_n, (beq_eq_false_iff_ne.mpr q_early_marks_n), q_early_marks_parts, (beq_eq_false_iff_ne.mpr q_early_marks_parts), q_early_marks_period, (beq_eq_false_iff_ne.mpr q_early_marks_period), q_early_marks_rest_marks, (beq_eq_false_iff_ne.mpr q_early_marks_rest_marks), q_early_marks_rests, (beq_eq_false_iff_ne.mpr q_early_marks_rests), q_early_marks_start, (beq_eq_false_iff_ne.mpr q_early_marks_start), q_early_marks_base, (beq_eq_false_iff_ne.mpr q_early_marks_base), q_early_marks_least, (beq_eq_false_iff_ne.mpr q_early_marks_least), q_early_marks_slope, (beq_eq_false_iff_ne.mpr q_early_marks_slope), q_lag_early, (beq_eq_false_iff_ne.mpr q_lag_early), q_lag_early_marks, (beq_eq_false_iff_ne.mpr q_lag_early_marks), q_lag_modulus, (beq_eq_false_iff_ne.mpr q_lag_modulus), q_lag_n, (beq_eq_false_iff_ne.mpr q_lag_n), q_lag_parts, (beq_eq_false_iff_ne.mpr q_lag_parts), q_lag_period, (beq_eq_false_iff_ne.mpr q_lag_period), q_lag_rest_marks, (beq_eq_false_iff_ne.mpr q_lag_rest_marks), q_lag_rests, (beq_eq_false_iff_ne.mpr q_lag_rests), q_lag_start, (beq_eq_false_iff_ne.mpr q_lag_start), q_lag_base, (beq_eq_false_iff_ne.mpr q_lag_base), q_lag_least, (beq_eq_false_iff_ne.mpr q_lag_least), q_lag_slope, (beq_eq_false_iff_ne.mpr q_lag_slope), q_modulus_early, (beq_eq_false_iff_ne.mpr q_modulus_early), q_modulus_early_marks, (beq_eq_false_iff_ne.mpr q_modulus_early_marks), q_modulus_lag, (beq_eq_false_iff_ne.mpr q_modulus_lag), q_modulus_n, (beq_eq_false_iff_ne.mpr q_modulus_n), q_modulus_parts, (beq_eq_false_iff_ne.mpr q_modulus_parts), q_modulus_period, (beq_eq_false_iff_ne.mpr q_modulus_period), q_modulus_rest_marks, (beq_eq_false_iff_ne.mpr q_modulus_rest_marks), q_modulus_rests, (beq_eq_false_iff_ne.mpr q_modulus_rests), q_modulus_start, (beq_eq_false_iff_ne.mpr q_modulus_start), q_modulus_base, (beq_eq_false_iff_ne.mpr q_modulus_base), q_modulus_least, (beq_eq_false_iff_ne.mpr q_modulus_least), q_modulus_slope, (beq_eq_false_iff_ne.mpr q_modulus_slope), q_n_early, (beq_eq_false_iff_ne.mpr q_n_early), q_n_early_marks, (beq_eq_false_iff_ne.mpr q_n_early_marks), q_n_lag, (beq_eq_false_iff_ne.mpr q_n_lag), q_n_modulus, (beq_eq_false_iff_ne.mpr q_n_modulus), q_n_parts, (beq_eq_false_iff_ne.mpr q_n_parts), q_n_period, (beq_eq_false_iff_ne.mpr q_n_period), q_n_rest_marks, (beq_eq_false_iff_ne.mpr q_n_rest_marks), q_n_rests, (beq_eq_false_iff_ne.mpr q_n_rests), q_n_start, (beq_eq_false_iff_ne.mpr q_n_start), q_n_base, (beq_eq_false_iff_ne.mpr q_n_base), q_n_least, (beq_eq_false_iff_ne.mpr q_n_least), q_n_slope, (beq_eq_false_iff_ne.mpr q_n_slope), q_parts_early, (beq_eq_false_iff_ne.mpr q_parts_early), q_parts_early_marks, (beq_eq_false_iff_ne.mpr q_parts_early_marks), q_parts_lag, (beq_eq_false_iff_ne.mpr q_parts_lag), q_parts_modulus, (beq_eq_false_iff_ne.mpr q_parts_modulus), q_parts_n, (beq_eq_false_iff_ne.mpr q_parts_n), q_parts_period, (beq_eq_false_iff_ne.mpr q_parts_period), q_parts_rest_marks, (beq_eq_false_iff_ne.mpr q_parts_rest_marks), q_parts_rests, (beq_eq_false_iff_ne.mpr q_parts_rests), q_parts_start, (beq_eq_false_iff_ne.mpr q_parts_start), q_parts_base, (beq_eq_false_iff_ne.mpr q_parts_base), q_parts_least, (beq_eq_false_iff_ne.mpr q_parts_least), q_parts_slope, (beq_eq_false_iff_ne.mpr q_parts_slope), q_period_early, (beq_eq_false_iff_ne.mpr q_period_early), q_period_early_marks, (beq_eq_false_iff_ne.mpr q_period_early_marks), q_period_lag, (beq_eq_false_iff_ne.mpr q_period_lag), q_period_modulus, (beq_eq_false_iff_ne.mpr q_period_modulus), q_period_n, (beq_eq_false_iff_ne.mpr q_period_n), q_period_parts, (beq_eq_false_iff_ne.mpr q_period_parts), q_period_rest_marks, (beq_eq_false_iff_ne.mpr q_period_rest_marks), q_period_rests, (beq_eq_false_iff_ne.mpr q_period_rests), q_period_start, (beq_eq_false_iff_ne.mpr q_period_start), q_period_base, (beq_eq_false_iff_ne.mpr q_period_base), q_period_least, (beq_eq_false_iff_ne.mpr q_period_least), q_period_slope, (beq_eq_false_iff_ne.mpr q_period_slope), q_rest_marks_early, (beq_eq_false_iff_ne.mpr q_rest_marks_early), q_rest_marks_early_marks, (beq_eq_false_iff_ne.mpr q_rest_marks_early_marks), q_rest_marks_lag, (beq_eq_false_iff_ne.mpr q_rest_marks_lag), q_rest_marks_modulus, (beq_eq_false_iff_ne.mpr q_rest_marks_modulus), q_rest_marks_n, (beq_eq_false_iff_ne.mpr q_rest_marks_n), q_rest_marks_parts, (beq_eq_false_iff_ne.mpr q_rest_marks_parts), q_rest_marks_period, (beq_eq_false_iff_ne.mpr q_rest_marks_period), q_rest_marks_rests, (beq_eq_false_iff_ne.mpr q_rest_marks_rests), q_rest_marks_start, (beq_eq_false_iff_ne.mpr q_rest_marks_start), q_rest_marks_base, (beq_eq_false_iff_ne.mpr q_rest_marks_base), q_rest_marks_least, (beq_eq_false_iff_ne.mpr q_rest_marks_least), q_rest_marks_slope, (beq_eq_false_iff_ne.mpr q_rest_marks_slope), q_rests_early, (beq_eq_false_iff_ne.mpr q_rests_early), q_rests_early_marks, (beq_eq_false_iff_ne.mpr q_rests_early_marks), q_rests_lag, (beq_eq_false_iff_ne.mpr q_rests_lag), q_rests_modulus, (beq_eq_false_iff_ne.mpr q_rests_modulus), q_rests_n, (beq_eq_false_iff_ne.mpr q_rests_n), q_rests_parts, (beq_eq_false_iff_ne.mpr q_rests_parts), q_rests_period, (beq_eq_false_iff_ne.mpr q_rests_period), q_rests_rest_marks, (beq_eq_false_iff_ne.mpr q_rests_rest_marks), q_rests_start, (beq_eq_false_iff_ne.mpr q_rests_start), q_rests_base, (beq_eq_false_iff_ne.mpr q_rests_base), q_rests_least, (beq_eq_false_iff_ne.mpr q_rests_least), q_rests_slope, (beq_eq_false_iff_ne.mpr q_rests_slope), q_start_early, (beq_eq_false_iff_ne.mpr q_start_early), q_start_early_marks, (beq_eq_false_iff_ne.mpr q_start_early_marks), q_start_lag, (beq_eq_false_iff_ne.mpr q_start_lag), q_start_modulus, (beq_eq_false_iff_ne.mpr q_start_modulus), q_start_n, (beq_eq_false_iff_ne.mpr q_start_n), q_start_parts, (beq_eq_false_iff_ne.mpr q_start_parts), q_start_period, (beq_eq_false_iff_ne.mpr q_start_period), q_start_rest_marks, (beq_eq_false_iff_ne.mpr q_start_rest_marks), q_start_rests, (beq_eq_false_iff_ne.mpr q_start_rests), q_start_base, (beq_eq_false_iff_ne.mpr q_start_base), q_start_least, (beq_eq_false_iff_ne.mpr q_start_least), q_start_slope, (beq_eq_false_iff_ne.mpr q_start_slope), q_base_early, (beq_eq_false_iff_ne.mpr q_base_early), q_base_early_marks, (beq_eq_false_iff_ne.mpr q_base_early_marks), q_base_lag, (beq_eq_false_iff_ne.mpr q_base_lag), q_base_modulus, (beq_eq_false_iff_ne.mpr q_base_modulus), q_base_n, (beq_eq_false_iff_ne.mpr q_base_n), q_base_parts, (beq_eq_false_iff_ne.mpr q_base_parts), q_base_period, (beq_eq_false_iff_ne.mpr q_base_period), q_base_rest_marks, (beq_eq_false_iff_ne.mpr q_base_rest_marks), q_base_rests, (beq_eq_false_iff_ne.mpr q_base_rests), q_base_start, (beq_eq_false_iff_ne.mpr q_base_start), q_base_least, (beq_eq_false_iff_ne.mpr q_base_least), q_base_slope, (beq_eq_false_iff_ne.mpr q_base_slope), q_least_early, (beq_eq_false_iff_ne.mpr q_least_early), q_least_early_marks, (beq_eq_false_iff_ne.mpr q_least_early_marks), q_least_lag, (beq_eq_false_iff_ne.mpr q_least_lag), q_least_modulus, (beq_eq_false_iff_ne.mpr q_least_modulus), q_least_n, (beq_eq_false_iff_ne.mpr q_least_n), q_least_parts, (beq_eq_false_iff_ne.mpr q_least_parts), q_least_period, (beq_eq_false_iff_ne.mpr q_least_period), q_least_rest_marks, (beq_eq_false_iff_ne.mpr q_least_rest_marks), q_least_rests, (beq_eq_false_iff_ne.mpr q_least_rests), q_least_start, (beq_eq_false_iff_ne.mpr q_least_start), q_least_base, (beq_eq_false_iff_ne.mpr q_least_base), q_least_slope, (beq_eq_false_iff_ne.mpr q_least_slope), q_slope_early, (beq_eq_false_iff_ne.mpr q_slope_early), q_slope_early_marks, (beq_eq_false_iff_ne.mpr q_slope_early_marks), q_slope_lag, (beq_eq_false_iff_ne.mpr q_slope_lag), q_slope_modulus, (beq_eq_false_iff_ne.mpr q_slope_modulus), q_slope_n, (beq_eq_false_iff_ne.mpr q_slope_n), q_slope_parts, (beq_eq_false_iff_ne.mpr q_slope_parts), q_slope_period, (beq_eq_false_iff_ne.mpr q_slope_period), q_slope_rest_marks, (beq_eq_false_iff_ne.mpr q_slope_rest_marks), q_slope_rests, (beq_eq_false_iff_ne.mpr q_slope_rests), q_slope_start, (beq_eq_false_iff_ne.mpr q_slope_start), q_slope_base, (beq_eq_false_iff_ne.mpr q_slope_base), q_slope_least, (beq_eq_false_iff_ne.mpr q_slope_least)]; first | done | rfl))
structure Adr where
  f_has_outside : Addr
  d_has_outside : FuncData
  f_is_whole : Addr
  d_is_whole : FuncData
  f_is_whole_from : Addr
  d_is_whole_from : FuncData
  f_is_word_of : Addr
  d_is_word_of : FuncData
  f_is_size : Addr
  d_is_size : FuncData
  f_check_size : Addr
  d_check_size : FuncData
  f_is_ascending : Addr
  d_is_ascending : FuncData
  f_check_parts : Addr
  d_check_parts : FuncData
  f_least_start : Addr
  d_least_start : FuncData
  f_marks_of : Addr
  d_marks_of : FuncData
  f_shortest : Addr
  d_shortest : FuncData
  f_SizeSetu__initu_ : Addr
  d_SizeSetu__initu_ : FuncData
  f_SizeSet_start : Addr
  d_SizeSet_start : FuncData
  f_SizeSet_period : Addr
  d_SizeSet_period : FuncData
  f_SizeSetu__containsu_ : Addr
  d_SizeSetu__containsu_ : FuncData
  f_common_parts : Addr
  d_common_parts : FuncData
  f_SizeSetu__leu_ : Addr
  d_SizeSetu__leu_ : FuncData
  f_Formu__initu_ : Addr
  d_Formu__initu_ : FuncData
  f_form_at : Addr
  d_form_at : FuncData
  f_Scheme_wrap : Addr
  d_Scheme_wrap : FuncData
  f_wrap_at : Addr
  d_wrap_at : FuncData
  f_modulus_of : Addr
  d_modulus_of : FuncData
  f_Beliefu__initu_ : Addr
  d_Beliefu__initu_ : FuncData
  f_Belief_believed : Addr
  d_Belief_believed : FuncData
  f_Belief_number_right : Addr
  d_Belief_number_right : FuncData
  f_Belief_place_right : Addr
  d_Belief_place_right : FuncData
  f_Beliefu__boolu_ : Addr
  d_Beliefu__boolu_ : FuncData
  f_Scheme_slot : Addr
  d_Scheme_slot : FuncData
  f_Scheme_when : Addr
  d_Scheme_when : FuncData
  f_log_modulus : Addr
  d_log_modulus : FuncData
  f_check_lag : Addr
  d_check_lag : FuncData
  f_belief_of : Addr
  d_belief_of : FuncData
  f_short_modulus : Addr
  d_short_modulus : FuncData
  f_right_lags : Addr
  d_right_lags : FuncData
  f_place_lags : Addr
  d_place_lags : FuncData
  f_is_small_form : Addr
  d_is_small_form : FuncData
  f_is_full : Addr
  d_is_full : FuncData
  f_is_wrap : Addr
  d_is_wrap : FuncData
  f_is_part : Addr
  d_is_part : FuncData
  f_first_wrong : Addr
  d_first_wrong : FuncData
  f_Schemeu__initu_ : Addr
  d_Schemeu__initu_ : FuncData
  f_l_mixed : Addr
  d_l_mixed : FuncData
  f_l_pool : Addr
  d_l_pool : FuncData
  f_l_draw : Addr
  d_l_draw : FuncData
  f_l_wide : Addr
  d_l_wide : FuncData
  f_l_made : Addr
  d_l_made : FuncData
  f_l_power : Addr
  d_l_power : FuncData
  f_l_setting : Addr
  d_l_setting : FuncData
  f_l_greater : Addr
  d_l_greater : FuncData
  f_l_both_long : Addr
  d_l_both_long : FuncData
  f_law : Addr
  d_law : FuncData
  c_Form : Addr
  c_Scheme : Addr
  c_Belief : Addr
  c_RingError : Addr
  c_SizeSet : Addr
  c_NoSize : Addr
  c_NoRing : Addr
  c_NotDecided : Addr
  c_NoLag : Addr
  c_TooLong : Addr
  p_SizeSet_start : Addr
  p_SizeSet_period : Addr
  p_Scheme_wrap : Addr
  p_Belief_believed : Addr
  p_Belief_number_right : Addr
  p_Belief_place_right : Addr
  p_Scheme_slot : Addr
  p_Scheme_when : Addr
  t_GREATEST_SIZE : Tok
  t_PART_NAMES : Addr
  t_PART_WORDS : Addr
  t_PART_WORDS_slot : Addr
  t_PART_WORDS_empty : Addr
  t_PART_WORDS_when : Addr
  t_MEASURES : Addr
  t_SIGNS : Addr
  t_PLAIN_FULLS : Addr
  t_GREATEST_SLOPE : Tok
  t_GREATEST_BASE : Tok
  t_GREATEST_WIDTH : Tok
  t_GREATEST_LAG : Tok
  t_GREATEST_START : Tok
  t_GREATEST_PERIOD : Tok
  t_GREATEST_TOLD_MODULUS : Tok
structure IsC (K : PySem.W.Frag) (C : Addr) : Prop where
  ha : PySem.W.findIn K (.ref C) "__class__" = some (some (.builtin "object.__class__"))
  hn : PySem.W.specialIn K (.builtin "object.__class__") "__get__" = some (some (.builtin "getset_descriptor.__get__"))
  htk : PySem.W.takesIn K (.builtin "object.__class__") = some true
  hm : PySem.W.mroIn K C (.type "object") = some true
theorem ty_own {K : PySem.W.Frag} {H : Hp} {a C dx : Addr} {fs : List (Str × V)} (e : H a = some (.ins C dx fs)) (k : Cls K C) (i : IsC K C) : TyX K H (.ref a) (.ref C) := .base (.ins e k i.ha i.hn i.htk i.hm)
local macro_rules | `(tactic| walk_at "tyx") => `(tactic| first | ((with_reducible apply ty_own); (· walk_at "hp"); (· with_reducible assumption); (· with_reducible assumption)) | fail "tyx")
abbrev R : PySem.W.OpenRow := PySem.W.OpenLaw.row PySem.Challenge.rw_ringindexes_k60_sets_of_lags
abbrev Px0 (K : PySem.W.Frag) : Prop := (PySem.W.nsIn K mainGlobals "abs" = some none) ∧ (PySem.W.nsIn K mainGlobals "all" = some none) ∧ (PySem.W.nsIn K mainGlobals "bool" = some none) ∧ (PySem.W.nsIn K mainGlobals "int" = some none) ∧ (PySem.W.nsIn K mainGlobals "isinstance" = some none) ∧ (PySem.W.nsIn K mainGlobals "len" = some none) ∧ (PySem.W.nsIn K mainGlobals "list" = some none) ∧ (PySem.W.nsIn K mainGlobals "max" = some none) ∧ (PySem.W.nsIn K mainGlobals "min" = some none) ∧ (PySem.W.nsIn K mainGlobals "range" = some none) ∧ (PySem.W.nsIn K mainGlobals "str" = some none) ∧ (PySem.W.nsIn K mainGlobals "tuple" = some none)
abbrev Px1 (K : PySem.W.Frag) : Prop := (PySem.W.nsIn K mainGlobals "GREATEST_SIZE" = some (some (.int (1000000000000000000000000000000) (Hd.tok (PySem.W.nsIn K mainGlobals "GREATEST_SIZE"))))) ∧ (PySem.W.nsIn K mainGlobals "PART_NAMES" = some (some (.ref (He.ga K "PART_NAMES")))) ∧ (PySem.W.nsIn K mainGlobals "PART_WORDS" = some (some (.ref (He.ga K "PART_WORDS")))) ∧ (PySem.W.nsIn K mainGlobals "MEASURES" = some (some (.ref (He.ga K "MEASURES")))) ∧ (PySem.W.nsIn K mainGlobals "SIGNS" = some (some (.ref (He.ga K "SIGNS")))) ∧ (PySem.W.nsIn K mainGlobals "PLAIN_FULLS" = some (some (.ref (He.ga K "PLAIN_FULLS")))) ∧ (PySem.W.nsIn K mainGlobals "GREATEST_SLOPE" = some (some (.int (4) (Hd.tok (PySem.W.nsIn K mainGlobals "GREATEST_SLOPE"))))) ∧ (PySem.W.nsIn K mainGlobals "GREATEST_BASE" = some (some (.int (20) (Hd.tok (PySem.W.nsIn K mainGlobals "GREATEST_BASE"))))) ∧ (PySem.W.nsIn K mainGlobals "GREATEST_WIDTH" = some (some (.int (100) (Hd.tok (PySem.W.nsIn K mainGlobals "GREATEST_WIDTH"))))) ∧ (PySem.W.nsIn K mainGlobals "GREATEST_LAG" = some (some (.int (10000000000000000000000000000000000000000) (Hd.tok (PySem.W.nsIn K mainGlobals "GREATEST_LAG"))))) ∧ (PySem.W.nsIn K mainGlobals "GREATEST_START" = some (some (.int (20000) (Hd.tok (PySem.W.nsIn K mainGlobals "GREATEST_START"))))) ∧ (PySem.W.nsIn K mainGlobals "GREATEST_PERIOD" = some (some (.int (5000) (Hd.tok (PySem.W.nsIn K mainGlobals "GREATEST_PERIOD")))))
abbrev Px2 (K : PySem.W.Frag) : Prop := (PySem.W.nsIn K mainGlobals "GREATEST_TOLD_MODULUS" = some (some (.int (2000) (Hd.tok (PySem.W.nsIn K mainGlobals "GREATEST_TOLD_MODULUS"))))) ∧ (PySem.W.nsIn K mainGlobals "lcm" = some (some (.builtin "math.lcm"))) ∧ (PySem.W.nsIn K mainGlobals "NoSize" = some (some (.ref (He.ga K "NoSize")))) ∧ (PySem.W.nsIn K mainGlobals "NoRing" = some (some (.ref (He.ga K "NoRing")))) ∧ (PySem.W.nsIn K mainGlobals "NotDecided" = some (some (.ref (He.ga K "NotDecided")))) ∧ (PySem.W.nsIn K mainGlobals "NoLag" = some (some (.ref (He.ga K "NoLag")))) ∧ (PySem.W.nsIn K mainGlobals "TooLong" = some (some (.ref (He.ga K "TooLong")))) ∧ (PySem.W.nsIn K mainGlobals "Form" = some (some (.ref (He.ga K "Form")))) ∧ (PySem.W.findIn K (.ref (He.ga K "Form")) "slope" = some none) ∧ (PySem.W.findIn K (.ref (He.ga K "Form")) "base" = some none) ∧ (PySem.W.nsIn K mainGlobals "Scheme" = some (some (.ref (He.ga K "Scheme")))) ∧ (PySem.W.findIn K (.ref (He.ga K "Scheme")) "_parts" = some none)
abbrev Px3 (K : PySem.W.Frag) : Prop := (PySem.W.nsIn K mainGlobals "Belief" = some (some (.ref (He.ga K "Belief")))) ∧ (PySem.W.findIn K (.ref (He.ga K "Belief")) "_lag" = some none) ∧ (PySem.W.findIn K (.ref (He.ga K "Belief")) "_modulus" = some none) ∧ (PySem.W.findIn K (.ref (He.ga K "Belief")) "_n" = some none) ∧ (PySem.W.nsIn K mainGlobals "RingError" = some (some (.ref (He.ga K "RingError")))) ∧ (PySem.W.nsIn K mainGlobals "SizeSet" = some (some (.ref (He.ga K "SizeSet")))) ∧ (PySem.W.findIn K (.ref (He.ga K "SizeSet")) "_period" = some none) ∧ (PySem.W.findIn K (.ref (He.ga K "SizeSet")) "_start" = some none) ∧ (PySem.W.findIn K (.ref (He.ga K "SizeSet")) "_early" = some none) ∧ (PySem.W.findIn K (.ref (He.ga K "SizeSet")) "_rests" = some none) ∧ (PySem.W.findIn K (.ref (He.ga K "SizeSet")) "_early_marks" = some none) ∧ (PySem.W.findIn K (.ref (He.ga K "SizeSet")) "_rest_marks" = some none)
abbrev Px4 (K : PySem.W.Frag) : Prop := (PySem.W.nsIn K mainGlobals "has_outside" = some (some (.ref (He.ga K "has_outside")))) ∧ (PySem.W.nsIn K mainGlobals "is_whole" = some (some (.ref (He.ga K "is_whole")))) ∧ (PySem.W.nsIn K mainGlobals "is_whole_from" = some (some (.ref (He.ga K "is_whole_from")))) ∧ (PySem.W.nsIn K mainGlobals "is_word_of" = some (some (.ref (He.ga K "is_word_of")))) ∧ (PySem.W.nsIn K mainGlobals "is_size" = some (some (.ref (He.ga K "is_size")))) ∧ (PySem.W.nsIn K mainGlobals "check_size" = some (some (.ref (He.ga K "check_size")))) ∧ (PySem.W.nsIn K mainGlobals "is_ascending" = some (some (.ref (He.ga K "is_ascending")))) ∧ (PySem.W.nsIn K mainGlobals "check_parts" = some (some (.ref (He.ga K "check_parts")))) ∧ (PySem.W.nsIn K mainGlobals "least_start" = some (some (.ref (He.ga K "least_start")))) ∧ (PySem.W.nsIn K mainGlobals "marks_of" = some (some (.ref (He.ga K "marks_of")))) ∧ (PySem.W.nsIn K mainGlobals "shortest" = some (some (.ref (He.ga K "shortest")))) ∧ (PySem.W.nsIn K mainGlobals "common_parts" = some (some (.ref (He.ga K "common_parts"))))
abbrev Px5 (K : PySem.W.Frag) : Prop := (PySem.W.nsIn K mainGlobals "form_at" = some (some (.ref (He.ga K "form_at")))) ∧ (PySem.W.nsIn K mainGlobals "wrap_at" = some (some (.ref (He.ga K "wrap_at")))) ∧ (PySem.W.nsIn K mainGlobals "modulus_of" = some (some (.ref (He.ga K "modulus_of")))) ∧ (PySem.W.nsIn K mainGlobals "log_modulus" = some (some (.ref (He.ga K "log_modulus")))) ∧ (PySem.W.nsIn K mainGlobals "check_lag" = some (some (.ref (He.ga K "check_lag")))) ∧ (PySem.W.nsIn K mainGlobals "belief_of" = some (some (.ref (He.ga K "belief_of")))) ∧ (PySem.W.nsIn K mainGlobals "short_modulus" = some (some (.ref (He.ga K "short_modulus")))) ∧ (PySem.W.nsIn K mainGlobals "right_lags" = some (some (.ref (He.ga K "right_lags")))) ∧ (PySem.W.nsIn K mainGlobals "place_lags" = some (some (.ref (He.ga K "place_lags")))) ∧ (PySem.W.nsIn K mainGlobals "is_small_form" = some (some (.ref (He.ga K "is_small_form")))) ∧ (PySem.W.nsIn K mainGlobals "is_full" = some (some (.ref (He.ga K "is_full")))) ∧ (PySem.W.nsIn K mainGlobals "is_wrap" = some (some (.ref (He.ga K "is_wrap"))))
abbrev Px6 (K : PySem.W.Frag) : Prop := (PySem.W.nsIn K mainGlobals "is_part" = some (some (.ref (He.ga K "is_part")))) ∧ (PySem.W.nsIn K mainGlobals "first_wrong" = some (some (.ref (He.ga K "first_wrong")))) ∧ (PySem.W.nsIn K mainGlobals "_law_mixed" = some (some (.ref (He.ga K "_law_mixed")))) ∧ (PySem.W.nsIn K mainGlobals "_law_pool" = some (some (.ref (He.ga K "_law_pool")))) ∧ (PySem.W.nsIn K mainGlobals "_law_draw" = some (some (.ref (He.ga K "_law_draw")))) ∧ (PySem.W.nsIn K mainGlobals "_law_wide" = some (some (.ref (He.ga K "_law_wide")))) ∧ (PySem.W.nsIn K mainGlobals "_law_made" = some (some (.ref (He.ga K "_law_made")))) ∧ (PySem.W.nsIn K mainGlobals "_law_power" = some (some (.ref (He.ga K "_law_power")))) ∧ (PySem.W.nsIn K mainGlobals "_law_setting" = some (some (.ref (He.ga K "_law_setting")))) ∧ (PySem.W.nsIn K mainGlobals "_law_greater" = some (some (.ref (He.ga K "_law_greater")))) ∧ (PySem.W.nsIn K mainGlobals "_law_both_long" = some (some (.ref (He.ga K "_law_both_long")))) ∧ (PySem.W.nsIn K mainGlobals "law" = some (some (.ref (He.ga K "law"))))
abbrev Px7 (K : PySem.W.Frag) : Prop := (PySem.W.findIn K (.ref (He.ga K "Form")) "__init__" = some (some (.ref (He.ma K (He.ga K "Form") "__init__")))) ∧ (PySem.W.findIn K (.ref (He.ga K "Scheme")) "__init__" = some (some (.ref (He.ma K (He.ga K "Scheme") "__init__")))) ∧ (PySem.W.findIn K (.ref (He.ga K "Belief")) "__init__" = some (some (.ref (He.ma K (He.ga K "Belief") "__init__")))) ∧ (PySem.W.findIn K (.ref (He.ga K "SizeSet")) "__init__" = some (some (.ref (He.ma K (He.ga K "SizeSet") "__init__")))) ∧ (PySem.W.findIn K (.ref (He.ga K "SizeSet")) "start" = some (some (.ref (He.ma K (He.ga K "SizeSet") "start")))) ∧ (PySem.W.findIn K (.ref (He.ga K "SizeSet")) "period" = some (some (.ref (He.ma K (He.ga K "SizeSet") "period")))) ∧ (PySem.W.findIn K (.ref (He.ga K "SizeSet")) "__contains__" = some (some (.ref (He.ma K (He.ga K "SizeSet") "__contains__")))) ∧ (PySem.W.findIn K (.ref (He.ga K "SizeSet")) "__le__" = some (some (.ref (He.ma K (He.ga K "SizeSet") "__le__")))) ∧ (PySem.W.findIn K (.ref (He.ga K "Scheme")) "wrap" = some (some (.ref (He.ma K (He.ga K "Scheme") "wrap")))) ∧ (PySem.W.findIn K (.ref (He.ga K "Belief")) "believed" = some (some (.ref (He.ma K (He.ga K "Belief") "believed")))) ∧ (PySem.W.findIn K (.ref (He.ga K "Belief")) "number_right" = some (some (.ref (He.ma K (He.ga K "Belief") "number_right")))) ∧ (PySem.W.findIn K (.ref (He.ga K "Belief")) "place_right" = some (some (.ref (He.ma K (He.ga K "Belief") "place_right"))))
abbrev Px8 (K : PySem.W.Frag) : Prop := (PySem.W.findIn K (.ref (He.ga K "Belief")) "__bool__" = some (some (.ref (He.ma K (He.ga K "Belief") "__bool__")))) ∧ (PySem.W.findIn K (.ref (He.ga K "Scheme")) "slot" = some (some (.ref (He.ma K (He.ga K "Scheme") "slot")))) ∧ (PySem.W.findIn K (.ref (He.ga K "Scheme")) "when" = some (some (.ref (He.ma K (He.ga K "Scheme") "when")))) ∧ (PySem.W.nsIn K (He.ga K "PART_WORDS") "slot" = some (some (.ref (Hd.adr (PySem.W.nsIn K (He.ga K "PART_WORDS") "slot"))))) ∧ (PySem.W.nsIn K (He.ga K "PART_WORDS") "empty" = some (some (.ref (Hd.adr (PySem.W.nsIn K (He.ga K "PART_WORDS") "empty"))))) ∧ (PySem.W.nsIn K (He.ga K "PART_WORDS") "when" = some (some (.ref (Hd.adr (PySem.W.nsIn K (He.ga K "PART_WORDS") "when"))))) ∧ (PySem.W.recIn K (He.ma K (He.ga K "SizeSet") "start") "property" = some (.ref (Hd.rec1 (PySem.W.recIn K (He.ma K (He.ga K "SizeSet") "start") "property")) :: (Hd.recR (PySem.W.recIn K (He.ma K (He.ga K "SizeSet") "start") "property")))) ∧ (PySem.W.recIn K (He.ma K (He.ga K "SizeSet") "period") "property" = some (.ref (Hd.rec1 (PySem.W.recIn K (He.ma K (He.ga K "SizeSet") "period") "property")) :: (Hd.recR (PySem.W.recIn K (He.ma K (He.ga K "SizeSet") "period") "property")))) ∧ (PySem.W.recIn K (He.ma K (He.ga K "Scheme") "wrap") "property" = some (.ref (Hd.rec1 (PySem.W.recIn K (He.ma K (He.ga K "Scheme") "wrap") "property")) :: (Hd.recR (PySem.W.recIn K (He.ma K (He.ga K "Scheme") "wrap") "property")))) ∧ (PySem.W.recIn K (He.ma K (He.ga K "Belief") "believed") "property" = some (.ref (Hd.rec1 (PySem.W.recIn K (He.ma K (He.ga K "Belief") "believed") "property")) :: (Hd.recR (PySem.W.recIn K (He.ma K (He.ga K "Belief") "believed") "property")))) ∧ (PySem.W.recIn K (He.ma K (He.ga K "Belief") "number_right") "property" = some (.ref (Hd.rec1 (PySem.W.recIn K (He.ma K (He.ga K "Belief") "number_right") "property")) :: (Hd.recR (PySem.W.recIn K (He.ma K (He.ga K "Belief") "number_right") "property")))) ∧ (PySem.W.recIn K (He.ma K (He.ga K "Belief") "place_right") "property" = some (.ref (Hd.rec1 (PySem.W.recIn K (He.ma K (He.ga K "Belief") "place_right") "property")) :: (Hd.recR (PySem.W.recIn K (He.ma K (He.ga K "Belief") "place_right") "property"))))
abbrev Px9 (K : PySem.W.Frag) : Prop := (PySem.W.recIn K (He.ma K (He.ga K "Scheme") "slot") "property" = some (.ref (Hd.rec1 (PySem.W.recIn K (He.ma K (He.ga K "Scheme") "slot") "property")) :: (Hd.recR (PySem.W.recIn K (He.ma K (He.ga K "Scheme") "slot") "property")))) ∧ (PySem.W.recIn K (He.ma K (He.ga K "Scheme") "when") "property" = some (.ref (Hd.rec1 (PySem.W.recIn K (He.ma K (He.ga K "Scheme") "when") "property")) :: (Hd.recR (PySem.W.recIn K (He.ma K (He.ga K "Scheme") "when") "property")))) ∧ (Hd.tupB K (He.ga K "PART_NAMES") [.str "wrap", .str "slot", .str "empty", .str "full", .str "when"] = true) ∧ (Hd.tupB K (Hd.adr (PySem.W.nsIn K (He.ga K "PART_WORDS") "slot")) [.str "rest", .str "off", .str "mask"] = true) ∧ (Hd.tupB K (Hd.adr (PySem.W.nsIn K (He.ga K "PART_WORDS") "empty")) [.str "same", .str "count", .str "note"] = true) ∧ (Hd.tupB K (Hd.adr (PySem.W.nsIn K (He.ga K "PART_WORDS") "when")) [.str "refuse", .str "drop", .str "over"] = true) ∧ (Hd.tupB K (He.ga K "MEASURES") [.str "diff", .str "count"] = true) ∧ (Hd.tupB K (He.ga K "SIGNS") [.str "=", .str ">="] = true) ∧ (Hd.tupB K (He.ga K "PLAIN_FULLS") [.str "next", .str "note"] = true) ∧ (PySem.W.excIn K (He.ga K "NoSize") [.type "ValueError", .type "Exception", .type "BaseException", .type "object"] "ValueError.__new__" = true) ∧ (PySem.W.keepIn K (.ref (He.ga K "NoSize")) = true) ∧ (PySem.W.subIn K (.ref (He.ga K "NoSize")) (.type "BaseException") = some true)
abbrev Px10 (K : PySem.W.Frag) : Prop := (PySem.W.typeIn K (.ref (He.ga K "NoSize")) = some (.type "type")) ∧ (PySem.W.excIn K (He.ga K "NoRing") [.type "ValueError", .type "Exception", .type "BaseException", .type "object"] "ValueError.__new__" = true) ∧ (PySem.W.keepIn K (.ref (He.ga K "NoRing")) = true) ∧ (PySem.W.subIn K (.ref (He.ga K "NoRing")) (.type "BaseException") = some true) ∧ (PySem.W.typeIn K (.ref (He.ga K "NoRing")) = some (.type "type")) ∧ (PySem.W.excIn K (He.ga K "NotDecided") [.type "ValueError", .type "Exception", .type "BaseException", .type "object"] "ValueError.__new__" = true) ∧ (PySem.W.keepIn K (.ref (He.ga K "NotDecided")) = true) ∧ (PySem.W.subIn K (.ref (He.ga K "NotDecided")) (.type "BaseException") = some true) ∧ (PySem.W.typeIn K (.ref (He.ga K "NotDecided")) = some (.type "type")) ∧ (PySem.W.excIn K (He.ga K "NoLag") [.type "ValueError", .type "Exception", .type "BaseException", .type "object"] "ValueError.__new__" = true) ∧ (PySem.W.keepIn K (.ref (He.ga K "NoLag")) = true) ∧ (PySem.W.subIn K (.ref (He.ga K "NoLag")) (.type "BaseException") = some true)
abbrev Px11 (K : PySem.W.Frag) : Prop := (PySem.W.typeIn K (.ref (He.ga K "NoLag")) = some (.type "type")) ∧ (PySem.W.excIn K (He.ga K "TooLong") [.type "ValueError", .type "Exception", .type "BaseException", .type "object"] "ValueError.__new__" = true) ∧ (PySem.W.keepIn K (.ref (He.ga K "TooLong")) = true) ∧ (PySem.W.subIn K (.ref (He.ga K "TooLong")) (.type "BaseException") = some true) ∧ (PySem.W.typeIn K (.ref (He.ga K "TooLong")) = some (.type "type")) ∧ (PySem.W.plainGet K (He.ga K "Form") Str.empty = true) ∧ (PySem.W.hasDictIn K (He.ga K "Form") = true) ∧ (PySem.W.plainOver K (He.ga K "Form") = true) ∧ (PySem.W.findIn K (.ref (He.ga K "Form")) "__setattr__" = some (some (.builtin "object.__setattr__"))) ∧ (PySem.W.makesIn K (He.ga K "Form") = true) ∧ (PySem.W.isFn K (.ref (He.ma K (He.ga K "Form") "__init__")) = true) ∧ (PySem.W.keepIn K (.ref (He.ga K "Form")) = true)
abbrev Px12 (K : PySem.W.Frag) : Prop := (PySem.W.findIn K (.ref (He.ga K "Form")) "__class__" = some (some (.builtin "object.__class__"))) ∧ (PySem.W.mroIn K (He.ga K "Form") (.type "object") = some true) ∧ (PySem.W.specialIn K (.builtin "object.__class__") "__get__" = some (some (.builtin "getset_descriptor.__get__"))) ∧ (PySem.W.takesIn K (.builtin "object.__class__") = some true) ∧ (PySem.W.kitOne K (.ref (He.ga K "Form")) (.ref (He.ga K "Form")) = some true) ∧ (PySem.W.kitOne K (.type "int") (.ref (He.ga K "Form")) = some false) ∧ (PySem.W.plainGet K (He.ga K "Scheme") Str.empty = true) ∧ (PySem.W.hasDictIn K (He.ga K "Scheme") = true) ∧ (PySem.W.plainOver K (He.ga K "Scheme") = true) ∧ (PySem.W.findIn K (.ref (He.ga K "Scheme")) "__setattr__" = some (some (.builtin "object.__setattr__"))) ∧ (PySem.W.makesIn K (He.ga K "Scheme") = true) ∧ (PySem.W.isFn K (.ref (He.ma K (He.ga K "Scheme") "__init__")) = true)
abbrev Px13 (K : PySem.W.Frag) : Prop := (PySem.W.keepIn K (.ref (He.ga K "Scheme")) = true) ∧ (PySem.W.plainGet K (He.ga K "Belief") Str.empty = true) ∧ (PySem.W.hasDictIn K (He.ga K "Belief") = true) ∧ (PySem.W.plainOver K (He.ga K "Belief") = true) ∧ (PySem.W.findIn K (.ref (He.ga K "Belief")) "__setattr__" = some (some (.builtin "object.__setattr__"))) ∧ (PySem.W.makesIn K (He.ga K "Belief") = true) ∧ (PySem.W.isFn K (.ref (He.ma K (He.ga K "Belief") "__init__")) = true) ∧ (PySem.W.keepIn K (.ref (He.ga K "Belief")) = true) ∧ (PySem.W.plainGet K (He.ga K "SizeSet") Str.empty = true) ∧ (PySem.W.hasDictIn K (He.ga K "SizeSet") = true) ∧ (PySem.W.plainOver K (He.ga K "SizeSet") = true) ∧ (PySem.W.findIn K (.ref (He.ga K "SizeSet")) "__setattr__" = some (some (.builtin "object.__setattr__")))
abbrev Px14 (K : PySem.W.Frag) : Prop := (PySem.W.makesIn K (He.ga K "SizeSet") = true) ∧ (PySem.W.isFn K (.ref (He.ma K (He.ga K "SizeSet") "__init__")) = true) ∧ (PySem.W.keepIn K (.ref (He.ga K "SizeSet")) = true) ∧ (PySem.W.findIn K (.ref (He.ga K "SizeSet")) "__class__" = some (some (.builtin "object.__class__"))) ∧ (PySem.W.mroIn K (He.ga K "SizeSet") (.type "object") = some true) ∧ (PySem.W.specialIn K (.builtin "object.__class__") "__get__" = some (some (.builtin "getset_descriptor.__get__"))) ∧ (PySem.W.takesIn K (.builtin "object.__class__") = some true) ∧ (PySem.W.kitOne K (.ref (He.ga K "SizeSet")) (.ref (He.ga K "SizeSet")) = some true) ∧ (PySem.W.kitOne K (.type "tuple") (.ref (He.ga K "SizeSet")) = some false) ∧ (PySem.W.specialIn K (.ref (He.ma K (He.ga K "SizeSet") "start")) "__get__" = some (some (.builtin "property.__get__"))) ∧ (PySem.W.takesIn K (.ref (He.ma K (He.ga K "SizeSet") "start")) = some true) ∧ (PySem.W.specialIn K (.ref (He.ma K (He.ga K "SizeSet") "period")) "__get__" = some (some (.builtin "property.__get__")))
abbrev Px15 (K : PySem.W.Frag) : Prop := (PySem.W.takesIn K (.ref (He.ma K (He.ga K "SizeSet") "period")) = some true) ∧ (PySem.W.isFn K (.ref (He.ma K (He.ga K "SizeSet") "__contains__")) = true) ∧ (PySem.W.isFn K (.ref (He.ma K (He.ga K "SizeSet") "__le__")) = true) ∧ (PySem.W.specialIn K (.ref (He.ma K (He.ga K "Scheme") "wrap")) "__get__" = some (some (.builtin "property.__get__"))) ∧ (PySem.W.takesIn K (.ref (He.ma K (He.ga K "Scheme") "wrap")) = some true) ∧ (PySem.W.specialIn K (.ref (He.ma K (He.ga K "Belief") "believed")) "__get__" = some (some (.builtin "property.__get__"))) ∧ (PySem.W.takesIn K (.ref (He.ma K (He.ga K "Belief") "believed")) = some true) ∧ (PySem.W.specialIn K (.ref (He.ma K (He.ga K "Belief") "number_right")) "__get__" = some (some (.builtin "property.__get__"))) ∧ (PySem.W.takesIn K (.ref (He.ma K (He.ga K "Belief") "number_right")) = some true) ∧ (PySem.W.specialIn K (.ref (He.ma K (He.ga K "Belief") "place_right")) "__get__" = some (some (.builtin "property.__get__"))) ∧ (PySem.W.takesIn K (.ref (He.ma K (He.ga K "Belief") "place_right")) = some true) ∧ (PySem.W.isFn K (.ref (He.ma K (He.ga K "Belief") "__bool__")) = true)
abbrev Px16 (K : PySem.W.Frag) : Prop := (PySem.W.specialIn K (.ref (He.ma K (He.ga K "Scheme") "slot")) "__get__" = some (some (.builtin "property.__get__"))) ∧ (PySem.W.takesIn K (.ref (He.ma K (He.ga K "Scheme") "slot")) = some true) ∧ (PySem.W.specialIn K (.ref (He.ma K (He.ga K "Scheme") "when")) "__get__" = some (some (.builtin "property.__get__"))) ∧ (PySem.W.takesIn K (.ref (He.ma K (He.ga K "Scheme") "when")) = some true) ∧ (PySem.W.notFirst K (He.ga K "Form") (.ref (He.ga K "Form")) = true) ∧ (PySem.W.notFirst K (He.ga K "Form") (.type "int") = true) ∧ (PySem.W.notFirst K (He.ga K "SizeSet") (.ref (He.ga K "SizeSet")) = true) ∧ (PySem.W.notFirst K (He.ga K "SizeSet") (.type "tuple") = true) ∧ (PySem.W.exmOne K (.ref (He.ga K "NoSize")) (.ref (He.ga K "NoSize")) = some true) ∧ (PySem.W.exmOne K (.ref (He.ga K "NoRing")) (.ref (He.ga K "NoSize")) = some false) ∧ (PySem.W.exmOne K (.ref (He.ga K "NoRing")) (.ref (He.ga K "NoRing")) = some true) ∧ (PySem.W.exmOne K (.ref (He.ga K "NotDecided")) (.ref (He.ga K "NoSize")) = some false)
abbrev Px17 (K : PySem.W.Frag) : Prop := (PySem.W.exmOne K (.ref (He.ga K "NotDecided")) (.ref (He.ga K "NoRing")) = some false) ∧ (PySem.W.exmOne K (.ref (He.ga K "NotDecided")) (.ref (He.ga K "NotDecided")) = some true) ∧ (PySem.W.exmOne K (.ref (He.ga K "NoLag")) (.ref (He.ga K "NoSize")) = some false) ∧ (PySem.W.exmOne K (.ref (He.ga K "NoLag")) (.ref (He.ga K "NoRing")) = some false) ∧ (PySem.W.exmOne K (.ref (He.ga K "NoLag")) (.ref (He.ga K "NotDecided")) = some false) ∧ (PySem.W.exmOne K (.ref (He.ga K "NoLag")) (.ref (He.ga K "NoLag")) = some true) ∧ (PySem.W.exmOne K (.ref (He.ga K "TooLong")) (.ref (He.ga K "TooLong")) = some true)
def exs (K : PySem.W.Frag) : Bool := decide (Px0 K) && (decide (Px1 K) && (decide (Px2 K) && (decide (Px3 K) && (decide (Px4 K) && (decide (Px5 K) && (decide (Px6 K) && (decide (Px7 K) && (decide (Px8 K) && (decide (Px9 K) && (decide (Px10 K) && (decide (Px11 K) && (decide (Px12 K) && (decide (Px13 K) && (decide (Px14 K) && (decide (Px15 K) && (decide (Px16 K) && (decide (Px17 K) && (true))))))))))))))))))
def df0 : Hd.Df := ⟨fun K => (He.ga K "has_outside"), "has_outside", "has_outside", s_has_outside, [], []⟩
def df1 : Hd.Df := ⟨fun K => (He.ga K "is_whole"), "is_whole", "is_whole", s_is_whole, [], []⟩
def df2 : Hd.Df := ⟨fun K => (He.ga K "is_whole_from"), "is_whole_from", "is_whole_from", s_is_whole_from, [], []⟩
def df3 : Hd.Df := ⟨fun K => (He.ga K "is_word_of"), "is_word_of", "is_word_of", s_is_word_of, [], []⟩
def df4 : Hd.Df := ⟨fun K => (He.ga K "is_size"), "is_size", "is_size", s_is_size, [], []⟩
def df5 : Hd.Df := ⟨fun K => (He.ga K "check_size"), "check_size", "check_size", s_check_size, [], []⟩
def df6 : Hd.Df := ⟨fun K => (He.ga K "is_ascending"), "is_ascending", "is_ascending", s_is_ascending, [], []⟩
def df7 : Hd.Df := ⟨fun K => (He.ga K "check_parts"), "check_parts", "check_parts", s_check_parts, [], []⟩
def df8 : Hd.Df := ⟨fun K => (He.ga K "least_start"), "least_start", "least_start", s_least_start, [], []⟩
def df9 : Hd.Df := ⟨fun K => (He.ga K "marks_of"), "marks_of", "marks_of", s_marks_of, [], []⟩
def df10 : Hd.Df := ⟨fun K => (He.ga K "shortest"), "shortest", "shortest", s_shortest, [], []⟩
def df11 : Hd.Df := ⟨fun K => (He.ma K (He.ga K "SizeSet") "__init__"), "__init__", "SizeSet.__init__", s_SizeSetu__initu_, [], []⟩
def df12 : Hd.Df := ⟨fun K => (Hd.rec1 (PySem.W.recIn K (He.ma K (He.ga K "SizeSet") "start") "property")), "start", "SizeSet.start", s_SizeSet_start, [], []⟩
def df13 : Hd.Df := ⟨fun K => (Hd.rec1 (PySem.W.recIn K (He.ma K (He.ga K "SizeSet") "period") "property")), "period", "SizeSet.period", s_SizeSet_period, [], []⟩
def df14 : Hd.Df := ⟨fun K => (He.ma K (He.ga K "SizeSet") "__contains__"), "__contains__", "SizeSet.__contains__", s_SizeSetu__containsu_, [], []⟩
def df15 : Hd.Df := ⟨fun K => (He.ga K "common_parts"), "common_parts", "common_parts", s_common_parts, [], []⟩
def df16 : Hd.Df := ⟨fun K => (He.ma K (He.ga K "SizeSet") "__le__"), "__le__", "SizeSet.__le__", s_SizeSetu__leu_, [], []⟩
def df17 : Hd.Df := ⟨fun K => (He.ma K (He.ga K "Form") "__init__"), "__init__", "Form.__init__", s_Formu__initu_, [], []⟩
def df18 : Hd.Df := ⟨fun K => (He.ga K "form_at"), "form_at", "form_at", s_form_at, [], []⟩
def df19 : Hd.Df := ⟨fun K => (Hd.rec1 (PySem.W.recIn K (He.ma K (He.ga K "Scheme") "wrap") "property")), "wrap", "Scheme.wrap", s_Scheme_wrap, [], []⟩
def df20 : Hd.Df := ⟨fun K => (He.ga K "wrap_at"), "wrap_at", "wrap_at", s_wrap_at, [], []⟩
def df21 : Hd.Df := ⟨fun K => (He.ga K "modulus_of"), "modulus_of", "modulus_of", s_modulus_of, [], []⟩
def df22 : Hd.Df := ⟨fun K => (He.ma K (He.ga K "Belief") "__init__"), "__init__", "Belief.__init__", s_Beliefu__initu_, [], []⟩
def df23 : Hd.Df := ⟨fun K => (Hd.rec1 (PySem.W.recIn K (He.ma K (He.ga K "Belief") "believed") "property")), "believed", "Belief.believed", s_Belief_believed, [], []⟩
def df24 : Hd.Df := ⟨fun K => (Hd.rec1 (PySem.W.recIn K (He.ma K (He.ga K "Belief") "number_right") "property")), "number_right", "Belief.number_right", s_Belief_number_right, [], []⟩
def df25 : Hd.Df := ⟨fun K => (Hd.rec1 (PySem.W.recIn K (He.ma K (He.ga K "Belief") "place_right") "property")), "place_right", "Belief.place_right", s_Belief_place_right, [], []⟩
def df26 : Hd.Df := ⟨fun K => (He.ma K (He.ga K "Belief") "__bool__"), "__bool__", "Belief.__bool__", s_Beliefu__boolu_, [], []⟩
def df27 : Hd.Df := ⟨fun K => (Hd.rec1 (PySem.W.recIn K (He.ma K (He.ga K "Scheme") "slot") "property")), "slot", "Scheme.slot", s_Scheme_slot, [], []⟩
def df28 : Hd.Df := ⟨fun K => (Hd.rec1 (PySem.W.recIn K (He.ma K (He.ga K "Scheme") "when") "property")), "when", "Scheme.when", s_Scheme_when, [], []⟩
def df29 : Hd.Df := ⟨fun K => (He.ga K "log_modulus"), "log_modulus", "log_modulus", s_log_modulus, [], []⟩
def df30 : Hd.Df := ⟨fun K => (He.ga K "check_lag"), "check_lag", "check_lag", s_check_lag, [], []⟩
def df31 : Hd.Df := ⟨fun K => (He.ga K "belief_of"), "belief_of", "belief_of", s_belief_of, [], []⟩
def df32 : Hd.Df := ⟨fun K => (He.ga K "short_modulus"), "short_modulus", "short_modulus", s_short_modulus, [], []⟩
def df33 : Hd.Df := ⟨fun K => (He.ga K "right_lags"), "right_lags", "right_lags", s_right_lags, [], []⟩
def df34 : Hd.Df := ⟨fun K => (He.ga K "place_lags"), "place_lags", "place_lags", s_place_lags, [], []⟩
def df35 : Hd.Df := ⟨fun K => (He.ga K "is_small_form"), "is_small_form", "is_small_form", s_is_small_form, [], []⟩
def df36 : Hd.Df := ⟨fun K => (He.ga K "is_full"), "is_full", "is_full", s_is_full, [], []⟩
def df37 : Hd.Df := ⟨fun K => (He.ga K "is_wrap"), "is_wrap", "is_wrap", s_is_wrap, [], []⟩
def df38 : Hd.Df := ⟨fun K => (He.ga K "is_part"), "is_part", "is_part", s_is_part, [], []⟩
def df39 : Hd.Df := ⟨fun K => (He.ga K "first_wrong"), "first_wrong", "first_wrong", s_first_wrong, [], []⟩
def df40 : Hd.Df := ⟨fun K => (He.ma K (He.ga K "Scheme") "__init__"), "__init__", "Scheme.__init__", s_Schemeu__initu_, [], [("when", .str "refuse")]⟩
def df41 : Hd.Df := ⟨fun K => (He.ga K "_law_mixed"), "_law_mixed", "_law_mixed", s_l_mixed, [], []⟩
def df42 : Hd.Df := ⟨fun K => (He.ga K "_law_pool"), "_law_pool", "_law_pool", s_l_pool, [], []⟩
def df43 : Hd.Df := ⟨fun K => (He.ga K "_law_draw"), "_law_draw", "_law_draw", s_l_draw, [], []⟩
def df44 : Hd.Df := ⟨fun K => (He.ga K "_law_wide"), "_law_wide", "_law_wide", s_l_wide, [], []⟩
def df45 : Hd.Df := ⟨fun K => (He.ga K "_law_made"), "_law_made", "_law_made", s_l_made, [], []⟩
def df46 : Hd.Df := ⟨fun K => (He.ga K "_law_power"), "_law_power", "_law_power", s_l_power, [], []⟩
def df47 : Hd.Df := ⟨fun K => (He.ga K "_law_setting"), "_law_setting", "_law_setting", s_l_setting, [], []⟩
def df48 : Hd.Df := ⟨fun K => (He.ga K "_law_greater"), "_law_greater", "_law_greater", s_l_greater, [], []⟩
def df49 : Hd.Df := ⟨fun K => (He.ga K "_law_both_long"), "_law_both_long", "_law_both_long", s_l_both_long, [], []⟩
def df50 : Hd.Df := ⟨fun K => (He.ga K "law"), "law", "law", s_law, [], []⟩
def fns : List Hd.Df := [df0, df1, df2, df3, df4, df5, df6, df7, df8, df9, df10, df11, df12, df13, df14, df15, df16, df17, df18, df19, df20, df21, df22, df23, df24, df25, df26, df27, df28, df29, df30, df31, df32, df33, df34, df35, df36, df37, df38, df39, df40, df41, df42, df43, df44, df45, df46, df47, df48, df49, df50]
def nm0 : List Str := ["_wall", "RingError", "NoForm", "NoSize", "NoRing", "NoSet", "TooLong", "NotDecided", "NoLag", "NoScheme", "has_outside", "GREATEST_SIZE", "is_whole", "is_whole_from", "is_word_of", "is_size", "check_size", "read_number", "GREATEST_START", "GREATEST_PERIOD", "SizeSet", "check_parts", "is_ascending", "marks_of", "shortest", "least_start", "set_parts", "common_parts", "set_of", "MOST_DIGITS"]
def nm1 : List Str := ["Form", "form_at", "as_form", "place_of", "show_form", "show_slope", "form_of_words", "read_slope", "read_signed", "modulus_of", "wrap_at", "GREATEST_LAG", "GREATEST_TOLD_MODULUS", "Belief", "log_modulus", "check_lag", "belief_of", "right_lags", "place_lags", "short_modulus", "PART_NAMES", "PART_WORDS", "MEASURES", "SIGNS", "PLAIN_FULLS", "GREATEST_SLOPE", "GREATEST_BASE", "GREATEST_WIDTH", "WIDTH_HEAD", "TEXT_HEADS"]
def nm2 : List Str := ["Scheme", "parts_of", "first_wrong", "is_part", "is_wrap", "is_small_form", "is_full", "show_scheme", "show_wrap", "show_full", "scheme_of_text", "read_wrap", "read_full", "_law_mixed", "_law_pool", "_law_draw", "_law_wide", "_law_made", "_law_setting", "_law_power", "_law_greater", "_law_both_long"]
def loose : List Str := nm0 ++ nm1 ++ nm2
def tbs : List He.Tab := [(fun K => He.ga K "PART_WORDS", ["slot", "empty", "when"])]
abbrev hk : PySem.W.Hook := Hd.hook 6 fns tbs exs
def ob (s : PySem.W.SharedT) : Hd.Al := Hd.ob 6 fns tbs exs s
theorem ob_is (s : PySem.W.SharedT) : ob s = hk.obs s.abs := Hd.ob_eq s
theorem run_false (w : World) : HandSHeadRun.RunEqI R (PySem.W.view R.prog [0, 92]) hk ob 200000 loose (w.withFollow "special-get-raises" false) := by unfold HandSHeadRun.RunEqI; kernel_rfl
theorem run_true (w : World) : HandSHeadRun.RunEqI R (PySem.W.view R.prog [0, 92]) hk ob 200000 loose (w.withFollow "special-get-raises" true) := by unfold HandSHeadRun.RunEqI; kernel_rfl
theorem run (w : World) : HandSHeadRun.RunEqI R (PySem.W.view R.prog [0, 92]) hk ob 200000 loose w := PySem.W.byRow2 "special-get-raises" (P := fun w => HandSHeadRun.RunEqI R (PySem.W.view R.prog [0, 92]) hk ob 200000 loose w) run_false run_true w
structure Txt (w : World) (K : PySem.W.Frag) (mg : Str → Option Value) (A : Adr) : Prop where
  n_abs : mg "abs" = none
  n_all : mg "all" = none
  n_bool : mg "bool" = none
  n_int : mg "int" = none
  n_isinstance : mg "isinstance" = none
  n_len : mg "len" = none
  n_list : mg "list" = none
  n_max : mg "max" = none
  n_min : mg "min" = none
  n_range : mg "range" = none
  n_str : mg "str" = none
  n_tuple : mg "tuple" = none
  m_GREATEST_SIZE : mg "GREATEST_SIZE" = some (.int (1000000000000000000000000000000) A.t_GREATEST_SIZE)
  m_PART_NAMES : mg "PART_NAMES" = some (.ref A.t_PART_NAMES)
  q_PART_NAMES : Rd.SqTK K A.t_PART_NAMES [.str "wrap", .str "slot", .str "empty", .str "full", .str "when"]
  m_PART_WORDS : mg "PART_WORDS" = some (.ref A.t_PART_WORDS)
  q_PART_WORDS_slot : Rd.SqTK K A.t_PART_WORDS_slot [.str "rest", .str "off", .str "mask"]
  d_PART_WORDS_slot : KDct K w A.t_PART_WORDS "slot" (.ref A.t_PART_WORDS_slot)
  q_PART_WORDS_empty : Rd.SqTK K A.t_PART_WORDS_empty [.str "same", .str "count", .str "note"]
  d_PART_WORDS_empty : KDct K w A.t_PART_WORDS "empty" (.ref A.t_PART_WORDS_empty)
  q_PART_WORDS_when : Rd.SqTK K A.t_PART_WORDS_when [.str "refuse", .str "drop", .str "over"]
  d_PART_WORDS_when : KDct K w A.t_PART_WORDS "when" (.ref A.t_PART_WORDS_when)
  m_MEASURES : mg "MEASURES" = some (.ref A.t_MEASURES)
  q_MEASURES : Rd.SqTK K A.t_MEASURES [.str "diff", .str "count"]
  m_SIGNS : mg "SIGNS" = some (.ref A.t_SIGNS)
  q_SIGNS : Rd.SqTK K A.t_SIGNS [.str "=", .str ">="]
  m_PLAIN_FULLS : mg "PLAIN_FULLS" = some (.ref A.t_PLAIN_FULLS)
  q_PLAIN_FULLS : Rd.SqTK K A.t_PLAIN_FULLS [.str "next", .str "note"]
  m_GREATEST_SLOPE : mg "GREATEST_SLOPE" = some (.int (4) A.t_GREATEST_SLOPE)
  m_GREATEST_BASE : mg "GREATEST_BASE" = some (.int (20) A.t_GREATEST_BASE)
  m_GREATEST_WIDTH : mg "GREATEST_WIDTH" = some (.int (100) A.t_GREATEST_WIDTH)
  m_GREATEST_LAG : mg "GREATEST_LAG" = some (.int (10000000000000000000000000000000000000000) A.t_GREATEST_LAG)
  m_GREATEST_START : mg "GREATEST_START" = some (.int (20000) A.t_GREATEST_START)
  m_GREATEST_PERIOD : mg "GREATEST_PERIOD" = some (.int (5000) A.t_GREATEST_PERIOD)
  m_GREATEST_TOLD_MODULUS : mg "GREATEST_TOLD_MODULUS" = some (.int (2000) A.t_GREATEST_TOLD_MODULUS)
  m_lcm : mg "lcm" = some (.builtin "math.lcm")
  m_NoSize : mg "NoSize" = some (.ref A.c_NoSize)
  x_NoSize : PySem.W.excIn K A.c_NoSize [.type "ValueError", .type "Exception", .type "BaseException", .type "object"] "ValueError.__new__" = true
  kp_NoSize : PySem.W.keepIn K (.ref A.c_NoSize) = true
  sb_NoSize : PySem.W.subIn K (.ref A.c_NoSize) (.type "BaseException") = some true
  tc_NoSize : PySem.W.typeIn K (.ref A.c_NoSize) = some (.type "type")
  m_NoRing : mg "NoRing" = some (.ref A.c_NoRing)
  x_NoRing : PySem.W.excIn K A.c_NoRing [.type "ValueError", .type "Exception", .type "BaseException", .type "object"] "ValueError.__new__" = true
  kp_NoRing : PySem.W.keepIn K (.ref A.c_NoRing) = true
  sb_NoRing : PySem.W.subIn K (.ref A.c_NoRing) (.type "BaseException") = some true
  tc_NoRing : PySem.W.typeIn K (.ref A.c_NoRing) = some (.type "type")
  m_NotDecided : mg "NotDecided" = some (.ref A.c_NotDecided)
  x_NotDecided : PySem.W.excIn K A.c_NotDecided [.type "ValueError", .type "Exception", .type "BaseException", .type "object"] "ValueError.__new__" = true
  kp_NotDecided : PySem.W.keepIn K (.ref A.c_NotDecided) = true
  sb_NotDecided : PySem.W.subIn K (.ref A.c_NotDecided) (.type "BaseException") = some true
  tc_NotDecided : PySem.W.typeIn K (.ref A.c_NotDecided) = some (.type "type")
  m_NoLag : mg "NoLag" = some (.ref A.c_NoLag)
  x_NoLag : PySem.W.excIn K A.c_NoLag [.type "ValueError", .type "Exception", .type "BaseException", .type "object"] "ValueError.__new__" = true
  kp_NoLag : PySem.W.keepIn K (.ref A.c_NoLag) = true
  sb_NoLag : PySem.W.subIn K (.ref A.c_NoLag) (.type "BaseException") = some true
  tc_NoLag : PySem.W.typeIn K (.ref A.c_NoLag) = some (.type "type")
  m_TooLong : mg "TooLong" = some (.ref A.c_TooLong)
  x_TooLong : PySem.W.excIn K A.c_TooLong [.type "ValueError", .type "Exception", .type "BaseException", .type "object"] "ValueError.__new__" = true
  kp_TooLong : PySem.W.keepIn K (.ref A.c_TooLong) = true
  sb_TooLong : PySem.W.subIn K (.ref A.c_TooLong) (.type "BaseException") = some true
  tc_TooLong : PySem.W.typeIn K (.ref A.c_TooLong) = some (.type "type")
  m_Form : mg "Form" = some (.ref A.c_Form)
  k_Form : Cls K A.c_Form
  n_Form_slope : NoAttr K A.c_Form "slope"
  n_Form_base : NoAttr K A.c_Form "base"
  K_Form : Mk K A.c_Form A.f_Formu__initu_
  i_Form : IsC K A.c_Form
  kt_Form_Form : PySem.W.kitOne K (.ref A.c_Form) (.ref A.c_Form) = some true
  kt_int_Form : PySem.W.kitOne K (.type "int") (.ref A.c_Form) = some false
  m_Scheme : mg "Scheme" = some (.ref A.c_Scheme)
  k_Scheme : Cls K A.c_Scheme
  n_Scheme_parts : NoAttr K A.c_Scheme "_parts"
  K_Scheme : Mk K A.c_Scheme A.f_Schemeu__initu_
  m_Belief : mg "Belief" = some (.ref A.c_Belief)
  k_Belief : Cls K A.c_Belief
  n_Belief_lag : NoAttr K A.c_Belief "_lag"
  n_Belief_modulus : NoAttr K A.c_Belief "_modulus"
  n_Belief_n : NoAttr K A.c_Belief "_n"
  K_Belief : Mk K A.c_Belief A.f_Beliefu__initu_
  m_RingError : mg "RingError" = some (.ref A.c_RingError)
  m_SizeSet : mg "SizeSet" = some (.ref A.c_SizeSet)
  k_SizeSet : Cls K A.c_SizeSet
  n_SizeSet_period : NoAttr K A.c_SizeSet "_period"
  n_SizeSet_start : NoAttr K A.c_SizeSet "_start"
  n_SizeSet_early : NoAttr K A.c_SizeSet "_early"
  n_SizeSet_rests : NoAttr K A.c_SizeSet "_rests"
  n_SizeSet_early_marks : NoAttr K A.c_SizeSet "_early_marks"
  n_SizeSet_rest_marks : NoAttr K A.c_SizeSet "_rest_marks"
  K_SizeSet : Mk K A.c_SizeSet A.f_SizeSetu__initu_
  i_SizeSet : IsC K A.c_SizeSet
  kt_SizeSet_SizeSet : PySem.W.kitOne K (.ref A.c_SizeSet) (.ref A.c_SizeSet) = some true
  kt_tuple_SizeSet : PySem.W.kitOne K (.type "tuple") (.ref A.c_SizeSet) = some false
  m_has_outside : mg "has_outside" = some (.ref A.f_has_outside)
  F_has_outside : Fun K "has_outside" "has_outside" s_has_outside A.f_has_outside A.d_has_outside
  b_has_outside : Binds K A.d_has_outside ["kind", "n", "modulus"] []
  m_is_whole : mg "is_whole" = some (.ref A.f_is_whole)
  F_is_whole : Fun K "is_whole" "is_whole" s_is_whole A.f_is_whole A.d_is_whole
  b_is_whole : Binds K A.d_is_whole ["thing"] []
  m_is_whole_from : mg "is_whole_from" = some (.ref A.f_is_whole_from)
  F_is_whole_from : Fun K "is_whole_from" "is_whole_from" s_is_whole_from A.f_is_whole_from A.d_is_whole_from
  b_is_whole_from : Binds K A.d_is_whole_from ["thing", "low", "high"] []
  m_is_word_of : mg "is_word_of" = some (.ref A.f_is_word_of)
  F_is_word_of : Fun K "is_word_of" "is_word_of" s_is_word_of A.f_is_word_of A.d_is_word_of
  b_is_word_of : Binds K A.d_is_word_of ["thing", "words"] []
  m_is_size : mg "is_size" = some (.ref A.f_is_size)
  F_is_size : Fun K "is_size" "is_size" s_is_size A.f_is_size A.d_is_size
  b_is_size : Binds K A.d_is_size ["thing"] []
  m_check_size : mg "check_size" = some (.ref A.f_check_size)
  F_check_size : Fun K "check_size" "check_size" s_check_size A.f_check_size A.d_check_size
  b_check_size : Binds K A.d_check_size ["n"] []
  m_is_ascending : mg "is_ascending" = some (.ref A.f_is_ascending)
  F_is_ascending : Fun K "is_ascending" "is_ascending" s_is_ascending A.f_is_ascending A.d_is_ascending
  b_is_ascending : Binds K A.d_is_ascending ["thing", "low", "high"] []
  m_check_parts : mg "check_parts" = some (.ref A.f_check_parts)
  F_check_parts : Fun K "check_parts" "check_parts" s_check_parts A.f_check_parts A.d_check_parts
  b_check_parts : Binds K A.d_check_parts ["early", "start", "period", "rests"] []
  m_least_start : mg "least_start" = some (.ref A.f_least_start)
  F_least_start : Fun K "least_start" "least_start" s_least_start A.f_least_start A.d_least_start
  b_least_start : Binds K A.d_least_start ["early_marks", "rest_marks"] []
  m_marks_of : mg "marks_of" = some (.ref A.f_marks_of)
  F_marks_of : Fun K "marks_of" "marks_of" s_marks_of A.f_marks_of A.d_marks_of
  b_marks_of : Binds K A.d_marks_of ["numbers", "end"] []
  m_shortest : mg "shortest" = some (.ref A.f_shortest)
  F_shortest : Fun K "shortest" "shortest" s_shortest A.f_shortest A.d_shortest
  b_shortest : Binds K A.d_shortest ["marks"] []
  F_SizeSetu__initu_ : Fun K "__init__" "SizeSet.__init__" s_SizeSetu__initu_ A.f_SizeSetu__initu_ A.d_SizeSetu__initu_
  b_SizeSetu__initu_ : Binds K A.d_SizeSetu__initu_ ["self", "early", "start", "period", "rests"] []
  F_SizeSet_start : Fun K "start" "SizeSet.start" s_SizeSet_start A.f_SizeSet_start A.d_SizeSet_start
  b_SizeSet_start : Binds K A.d_SizeSet_start ["self"] []
  F_SizeSet_period : Fun K "period" "SizeSet.period" s_SizeSet_period A.f_SizeSet_period A.d_SizeSet_period
  b_SizeSet_period : Binds K A.d_SizeSet_period ["self"] []
  F_SizeSetu__containsu_ : Fun K "__contains__" "SizeSet.__contains__" s_SizeSetu__containsu_ A.f_SizeSetu__containsu_ A.d_SizeSetu__containsu_
  b_SizeSetu__containsu_ : Binds K A.d_SizeSetu__containsu_ ["self", "x"] []
  m_common_parts : mg "common_parts" = some (.ref A.f_common_parts)
  F_common_parts : Fun K "common_parts" "common_parts" s_common_parts A.f_common_parts A.d_common_parts
  b_common_parts : Binds K A.d_common_parts ["one", "other"] []
  F_SizeSetu__leu_ : Fun K "__le__" "SizeSet.__le__" s_SizeSetu__leu_ A.f_SizeSetu__leu_ A.d_SizeSetu__leu_
  b_SizeSetu__leu_ : Binds K A.d_SizeSetu__leu_ ["self", "other"] []
  F_Formu__initu_ : Fun K "__init__" "Form.__init__" s_Formu__initu_ A.f_Formu__initu_ A.d_Formu__initu_
  b_Formu__initu_ : Binds K A.d_Formu__initu_ ["self", "slope", "base"] []
  m_form_at : mg "form_at" = some (.ref A.f_form_at)
  F_form_at : Fun K "form_at" "form_at" s_form_at A.f_form_at A.d_form_at
  b_form_at : Binds K A.d_form_at ["form", "n"] []
  F_Scheme_wrap : Fun K "wrap" "Scheme.wrap" s_Scheme_wrap A.f_Scheme_wrap A.d_Scheme_wrap
  b_Scheme_wrap : Binds K A.d_Scheme_wrap ["self"] []
  m_wrap_at : mg "wrap_at" = some (.ref A.f_wrap_at)
  F_wrap_at : Fun K "wrap_at" "wrap_at" s_wrap_at A.f_wrap_at A.d_wrap_at
  b_wrap_at : Binds K A.d_wrap_at ["wrap", "n"] []
  m_modulus_of : mg "modulus_of" = some (.ref A.f_modulus_of)
  F_modulus_of : Fun K "modulus_of" "modulus_of" s_modulus_of A.f_modulus_of A.d_modulus_of
  b_modulus_of : Binds K A.d_modulus_of ["scheme", "n"] []
  F_Beliefu__initu_ : Fun K "__init__" "Belief.__init__" s_Beliefu__initu_ A.f_Beliefu__initu_ A.d_Beliefu__initu_
  b_Beliefu__initu_ : Binds K A.d_Beliefu__initu_ ["self", "lag", "modulus", "n"] []
  F_Belief_believed : Fun K "believed" "Belief.believed" s_Belief_believed A.f_Belief_believed A.d_Belief_believed
  b_Belief_believed : Binds K A.d_Belief_believed ["self"] []
  F_Belief_number_right : Fun K "number_right" "Belief.number_right" s_Belief_number_right A.f_Belief_number_right A.d_Belief_number_right
  b_Belief_number_right : Binds K A.d_Belief_number_right ["self"] []
  F_Belief_place_right : Fun K "place_right" "Belief.place_right" s_Belief_place_right A.f_Belief_place_right A.d_Belief_place_right
  b_Belief_place_right : Binds K A.d_Belief_place_right ["self"] []
  F_Beliefu__boolu_ : Fun K "__bool__" "Belief.__bool__" s_Beliefu__boolu_ A.f_Beliefu__boolu_ A.d_Beliefu__boolu_
  b_Beliefu__boolu_ : Binds K A.d_Beliefu__boolu_ ["self"] []
  F_Scheme_slot : Fun K "slot" "Scheme.slot" s_Scheme_slot A.f_Scheme_slot A.d_Scheme_slot
  b_Scheme_slot : Binds K A.d_Scheme_slot ["self"] []
  F_Scheme_when : Fun K "when" "Scheme.when" s_Scheme_when A.f_Scheme_when A.d_Scheme_when
  b_Scheme_when : Binds K A.d_Scheme_when ["self"] []
  m_log_modulus : mg "log_modulus" = some (.ref A.f_log_modulus)
  F_log_modulus : Fun K "log_modulus" "log_modulus" s_log_modulus A.f_log_modulus A.d_log_modulus
  b_log_modulus : Binds K A.d_log_modulus ["scheme", "n"] []
  m_check_lag : mg "check_lag" = some (.ref A.f_check_lag)
  F_check_lag : Fun K "check_lag" "check_lag" s_check_lag A.f_check_lag A.d_check_lag
  b_check_lag : Binds K A.d_check_lag ["thing", "most"] []
  m_belief_of : mg "belief_of" = some (.ref A.f_belief_of)
  F_belief_of : Fun K "belief_of" "belief_of" s_belief_of A.f_belief_of A.d_belief_of
  b_belief_of : Binds K A.d_belief_of ["scheme", "n", "lag"] []
  m_short_modulus : mg "short_modulus" = some (.ref A.f_short_modulus)
  F_short_modulus : Fun K "short_modulus" "short_modulus" s_short_modulus A.f_short_modulus A.d_short_modulus
  b_short_modulus : Binds K A.d_short_modulus ["scheme", "n"] []
  m_right_lags : mg "right_lags" = some (.ref A.f_right_lags)
  F_right_lags : Fun K "right_lags" "right_lags" s_right_lags A.f_right_lags A.d_right_lags
  b_right_lags : Binds K A.d_right_lags ["scheme", "n"] []
  m_place_lags : mg "place_lags" = some (.ref A.f_place_lags)
  F_place_lags : Fun K "place_lags" "place_lags" s_place_lags A.f_place_lags A.d_place_lags
  b_place_lags : Binds K A.d_place_lags ["scheme", "n"] []
  m_is_small_form : mg "is_small_form" = some (.ref A.f_is_small_form)
  F_is_small_form : Fun K "is_small_form" "is_small_form" s_is_small_form A.f_is_small_form A.d_is_small_form
  b_is_small_form : Binds K A.d_is_small_form ["thing"] []
  m_is_full : mg "is_full" = some (.ref A.f_is_full)
  F_is_full : Fun K "is_full" "is_full" s_is_full A.f_is_full A.d_is_full
  b_is_full : Binds K A.d_is_full ["thing"] []
  m_is_wrap : mg "is_wrap" = some (.ref A.f_is_wrap)
  F_is_wrap : Fun K "is_wrap" "is_wrap" s_is_wrap A.f_is_wrap A.d_is_wrap
  b_is_wrap : Binds K A.d_is_wrap ["thing"] []
  m_is_part : mg "is_part" = some (.ref A.f_is_part)
  F_is_part : Fun K "is_part" "is_part" s_is_part A.f_is_part A.d_is_part
  b_is_part : Binds K A.d_is_part ["part", "thing"] []
  m_first_wrong : mg "first_wrong" = some (.ref A.f_first_wrong)
  F_first_wrong : Fun K "first_wrong" "first_wrong" s_first_wrong A.f_first_wrong A.d_first_wrong
  b_first_wrong : Binds K A.d_first_wrong ["parts"] []
  F_Schemeu__initu_ : FunD K "__init__" "Scheme.__init__" (defArgs s_Schemeu__initu_) (defBody s_Schemeu__initu_) (defScope s_Schemeu__initu_) [] [("when", .str "refuse")] A.f_Schemeu__initu_ A.d_Schemeu__initu_
  kb_Schemeu__initu_ : ∃ mv : List Value, KBn K A.d_Schemeu__initu_ ["self", "wrap", "slot", "empty", "full", "when"] 1 ["wrap", "slot", "empty", "full", "when"] (fun us ws => us ++ ws) (fun vs zs => vs ++ zs)
  m_l_mixed : mg "_law_mixed" = some (.ref A.f_l_mixed)
  F_l_mixed : Fun K "_law_mixed" "_law_mixed" s_l_mixed A.f_l_mixed A.d_l_mixed
  b_l_mixed : Binds K A.d_l_mixed ["_law_number", "_law_place", "_law_many"] []
  m_l_pool : mg "_law_pool" = some (.ref A.f_l_pool)
  F_l_pool : Fun K "_law_pool" "_law_pool" s_l_pool A.f_l_pool A.d_l_pool
  b_l_pool : Binds K A.d_l_pool ["_law_script"] []
  m_l_draw : mg "_law_draw" = some (.ref A.f_l_draw)
  F_l_draw : Fun K "_law_draw" "_law_draw" s_l_draw A.f_l_draw A.d_l_draw
  b_l_draw : Binds K A.d_l_draw ["_law_pool_here", "_law_many"] []
  m_l_wide : mg "_law_wide" = some (.ref A.f_l_wide)
  F_l_wide : Fun K "_law_wide" "_law_wide" s_l_wide A.f_l_wide A.d_l_wide
  b_l_wide : Binds K A.d_l_wide ["_law_pool_here", "_law_most"] []
  m_l_made : mg "_law_made" = some (.ref A.f_l_made)
  F_l_made : Fun K "_law_made" "_law_made" s_l_made A.f_l_made A.d_l_made
  b_l_made : Binds K A.d_l_made ["_law_row", "_law_manner"] []
  m_l_power : mg "_law_power" = some (.ref A.f_l_power)
  F_l_power : Fun K "_law_power" "_law_power" s_l_power A.f_l_power A.d_l_power
  b_l_power : Binds K A.d_l_power ["_law_many"] []
  m_l_setting : mg "_law_setting" = some (.ref A.f_l_setting)
  F_l_setting : Fun K "_law_setting" "_law_setting" s_l_setting A.f_l_setting A.d_l_setting
  b_l_setting : Binds K A.d_l_setting ["_law_pool_here"] []
  m_l_greater : mg "_law_greater" = some (.ref A.f_l_greater)
  F_l_greater : Fun K "_law_greater" "_law_greater" s_l_greater A.f_l_greater A.d_l_greater
  b_l_greater : Binds K A.d_l_greater ["_law_pool_here", "_law_row", "_law_n", "_law_modulus"] []
  m_l_both_long : mg "_law_both_long" = some (.ref A.f_l_both_long)
  F_l_both_long : Fun K "_law_both_long" "_law_both_long" s_l_both_long A.f_l_both_long A.d_l_both_long
  b_l_both_long : Binds K A.d_l_both_long ["_law_scheme", "_law_n"] []
  m_law : mg "law" = some (.ref A.f_law)
  F_law : Fun K "law" "law" s_law A.f_law A.d_law
  b_law : Binds K A.d_law ["_law_script"] []
  R_SizeSet_start : PropOf K A.c_SizeSet "start" A.p_SizeSet_start A.f_SizeSet_start
  R_SizeSet_period : PropOf K A.c_SizeSet "period" A.p_SizeSet_period A.f_SizeSet_period
  O_SizeSetu__containsu__1 : Own.Sp1 K A.c_SizeSet "__contains__" A.f_SizeSetu__containsu_
  O_SizeSetu__leu__1 : Own.Sp1 K A.c_SizeSet "__le__" A.f_SizeSetu__leu_
  R_Scheme_wrap : PropOf K A.c_Scheme "wrap" A.p_Scheme_wrap A.f_Scheme_wrap
  R_Belief_believed : PropOf K A.c_Belief "believed" A.p_Belief_believed A.f_Belief_believed
  R_Belief_number_right : PropOf K A.c_Belief "number_right" A.p_Belief_number_right A.f_Belief_number_right
  R_Belief_place_right : PropOf K A.c_Belief "place_right" A.p_Belief_place_right A.f_Belief_place_right
  O_Beliefu__boolu__1 : Own.Sp1 K A.c_Belief "__bool__" A.f_Beliefu__boolu_
  R_Scheme_slot : PropOf K A.c_Scheme "slot" A.p_Scheme_slot A.f_Scheme_slot
  R_Scheme_when : PropOf K A.c_Scheme "when" A.p_Scheme_when A.f_Scheme_when
  nf_Form_Form : PySem.W.notFirst K A.c_Form (.ref A.c_Form) = true
  nf_int_Form : PySem.W.notFirst K A.c_Form (.type "int") = true
  nf_SizeSet_SizeSet : PySem.W.notFirst K A.c_SizeSet (.ref A.c_SizeSet) = true
  nf_tuple_SizeSet : PySem.W.notFirst K A.c_SizeSet (.type "tuple") = true
  xm_NoSize_NoSize : PySem.W.exmOne K (.ref A.c_NoSize) (.ref A.c_NoSize) = some true
  xm_NoRing_NoSize : PySem.W.exmOne K (.ref A.c_NoRing) (.ref A.c_NoSize) = some false
  xm_NoRing_NoRing : PySem.W.exmOne K (.ref A.c_NoRing) (.ref A.c_NoRing) = some true
  xm_NotDecided_NoSize : PySem.W.exmOne K (.ref A.c_NotDecided) (.ref A.c_NoSize) = some false
  xm_NotDecided_NoRing : PySem.W.exmOne K (.ref A.c_NotDecided) (.ref A.c_NoRing) = some false
  xm_NotDecided_NotDecided : PySem.W.exmOne K (.ref A.c_NotDecided) (.ref A.c_NotDecided) = some true
  xm_NoLag_NoSize : PySem.W.exmOne K (.ref A.c_NoLag) (.ref A.c_NoSize) = some false
  xm_NoLag_NoRing : PySem.W.exmOne K (.ref A.c_NoLag) (.ref A.c_NoRing) = some false
  xm_NoLag_NotDecided : PySem.W.exmOne K (.ref A.c_NoLag) (.ref A.c_NotDecided) = some false
  xm_NoLag_NoLag : PySem.W.exmOne K (.ref A.c_NoLag) (.ref A.c_NoLag) = some true
  xm_TooLong_TooLong : PySem.W.exmOne K (.ref A.c_TooLong) (.ref A.c_TooLong) = some true

/-- a form's fields -/
def fF (s b : Int) : List (Str × V) := [("slope", .int s), ("base", .int b)]
theorem fF_slope (s b : Int) : (fF s b).lookup ("slope" : Str) = some (V.int s) := by unfold fF; walk_at "lk"
theorem fF_base (s b : Int) : (fF s b).lookup ("base" : Str) = some (V.int b) := by unfold fF; walk_at "lk"
theorem fF_put (s b : Int) : putF "base" (.int b) (putF "slope" (.int s) []) = fF s b := by
  show (if ("slope" : Str) = "base" then _ else (("slope" : Str), V.int s) :: putF "base" (V.int b) []) = _
  rw [if_neg q_slope_base] <;> rfl
local macro_rules | `(tactic| walk_at "lk") => `(tactic| first | exact fF_slope _ _ | exact fF_base _ _)
def Form (A : Adr) (H : Hp) (p : Addr) (s b : Int) : Prop := ∃ dx, H p = some (.ins A.c_Form dx (fF s b))
/-- what may stand beside a form: a form, or an int -/
def ArgF (A : Adr) (H : Hp) (y : V) (c d : Int) : Prop := (∃ q dq, y = .ref q ∧ H q = some (.ins A.c_Form dq (fF c d))) ∨ (c = 0 ∧ y = .int d)
local macro_rules | `(tactic| walk_at "argf") => `(tactic| first | with_reducible assumption | exact Or.inl ⟨_, _, rfl, by walk_at "hp"⟩ | exact Or.inr ⟨rfl, rfl⟩)

local macro_rules | `(tactic| walk_at "hpt") => `(tactic| first | with_reducible assumption | ((with_reducible apply Rd.SqTK.get); with_reducible assumption) | ((with_reducible apply L2.SqT.of); walk_at "hp") | fail "hpt")
local macro_rules | `(tactic| walk_at "flt") => `(tactic| first | exact Rd.flatW _ | with_unfolding_all rfl | fail "flt")
local macro_rules | `(tactic| walk_at "kit") => `(tactic| first | with_reducible assumption | with_reducible exact Rd.kt_int_int | with_reducible exact Rd.kt_int_bool | with_reducible exact Rd.kt_int_str | with_reducible exact Rd.kt_int_tuple | with_reducible exact Rd.kt_int_list | with_reducible exact Rd.kt_int_dict | with_reducible exact Rd.kt_bool_int | with_reducible exact Rd.kt_bool_bool | with_reducible exact Rd.kt_bool_str | with_reducible exact Rd.kt_bool_tuple | with_reducible exact Rd.kt_bool_list | with_reducible exact Rd.kt_bool_dict | with_reducible exact Rd.kt_str_int | with_reducible exact Rd.kt_str_bool | with_reducible exact Rd.kt_str_str | with_reducible exact Rd.kt_str_tuple | with_reducible exact Rd.kt_str_list | with_reducible exact Rd.kt_str_dict | with_reducible exact Rd.kt_NoneType_int | with_reducible exact Rd.kt_NoneType_bool | with_reducible exact Rd.kt_NoneType_str | with_reducible exact Rd.kt_NoneType_tuple | with_reducible exact Rd.kt_NoneType_list | with_reducible exact Rd.kt_NoneType_dict | with_reducible exact Rd.kt_tuple_int | with_reducible exact Rd.kt_tuple_bool | with_reducible exact Rd.kt_tuple_str | with_reducible exact Rd.kt_tuple_tuple | with_reducible exact Rd.kt_tuple_list | with_reducible exact Rd.kt_tuple_dict | with_reducible exact Rd.kt_list_int | with_reducible exact Rd.kt_list_bool | with_reducible exact Rd.kt_list_str | with_reducible exact Rd.kt_list_tuple | with_reducible exact Rd.kt_list_list | with_reducible exact Rd.kt_list_dict | with_reducible exact Rd.kt_dict_int | with_reducible exact Rd.kt_dict_bool | with_reducible exact Rd.kt_dict_str | with_reducible exact Rd.kt_dict_tuple | with_reducible exact Rd.kt_dict_list | with_reducible exact Rd.kt_dict_dict | fail "kit")
local macro_rules | `(tactic| walk_at "sz") => `(tactic| first | exact L2.small1000 (by omega) | exact L2.small1000 (by walk_at "ll") | exact Nat.le_of_lt (L2.small1000 (by walk_at "ll")) | fail "sz")
local macro_rules | `(tactic| walk_at "ll0") => `(tactic| with_unfolding_all exact Nat.lt_of_lt_of_le Nat.zero_lt_one (Nat.le_of_ble_eq_true rfl))
/-- what wraps the counters: a width, or a form -/
inductive Wr where
  | width (w : Int)
  | form (s b : Int)
/-- the test for full -/
inductive Fl where
  | plain (k : Str)
  | lim (k g : Str) (s b : Int)
structure Pt where
  wrap : Wr
  slot : Str
  empty : Str
  full : Fl
  wen : Str
def IsWrap (A : Adr) (H : Hp) (v : V) : Wr → Prop
  | .width w => v = .int w
  | .form s b => ∃ p dx, v = .ref p ∧ H p = some (.ins A.c_Form dx (fF s b))
def IsFull (A : Adr) (H : Hp) (v : V) : Fl → Prop
  | .plain k => ∃ p, v = .ref p ∧ H p = some (.tup [.str k])
  | .lim k g s b => ∃ p q dq, v = .ref p ∧ H p = some (.tup [.str k, .str g, .ref q]) ∧ H q = some (.ins A.c_Form dq (fF s b))
theorem IsWrap.same {A : Adr} {H H' : Hp} {v : V} (S : Same H H') : ∀ {t : Wr}, IsWrap A H v t → IsWrap A H' v t
  | .width _, h => h
  | .form _ _, ⟨p, dx, e, h⟩ => ⟨p, dx, e, S _ _ h⟩
theorem IsFull.same {A : Adr} {H H' : Hp} {v : V} (S : Same H H') : ∀ {t : Fl}, IsFull A H v t → IsFull A H' v t
  | .plain _, ⟨p, e, h⟩ => ⟨p, e, S _ _ h⟩
  | .lim _ _ _ _, ⟨p, q, dq, e, h, g⟩ => ⟨p, q, dq, e, S _ _ h, S _ _ g⟩
def wSlot : List Str := ["rest", "off", "mask"]
def wEmpty : List Str := ["same", "count", "note"]
def wWhen : List Str := ["refuse", "drop", "over"]
def wMeas : List Str := ["diff", "count"]
def wSign : List Str := ["=", ">="]
def wPlain : List Str := ["next", "note"]
def WfW : Wr → Prop
  | .width w => 1 ≤ w ∧ w ≤ 100
  | .form s b => 0 ≤ s ∧ s ≤ 4 ∧ -20 ≤ b ∧ b ≤ 20
def WfF : Fl → Prop
  | .plain k => k ∈ wPlain
  | .lim k g s b => k ∈ wMeas ∧ g ∈ wSign ∧ 0 ≤ s ∧ s ≤ 4 ∧ -20 ≤ b ∧ b ≤ 20
structure Wf (p : Pt) : Prop where
  w : WfW p.wrap
  s : p.slot ∈ wSlot
  e : p.empty ∈ wEmpty
  f : WfF p.full
  n : p.wen ∈ wWhen
  m : ∀ s b, p.wrap = .form s b → p.slot ≠ "mask"
/-- the dict of the parts -/
def kvP (w : V) (s e : Str) (f : V) (n : Str) : List (Key × V) := [(.inr "wrap", w), (.inr "slot", .str s), (.inr "empty", .str e), (.inr "full", f), (.inr "when", .str n)]
theorem kvP_wrap (w : V) (s e : Str) (f : V) (n : Str) : valV (kvP w s e f n) (.inr "wrap") = some w := by with_unfolding_all rfl
theorem kvP_slot (w : V) (s e : Str) (f : V) (n : Str) : valV (kvP w s e f n) (.inr "slot") = some (.str s) := by with_unfolding_all rfl
theorem kvP_empty (w : V) (s e : Str) (f : V) (n : Str) : valV (kvP w s e f n) (.inr "empty") = some (.str e) := by with_unfolding_all rfl
theorem kvP_full (w : V) (s e : Str) (f : V) (n : Str) : valV (kvP w s e f n) (.inr "full") = some f := by with_unfolding_all rfl
theorem kvP_when (w : V) (s e : Str) (f : V) (n : Str) : valV (kvP w s e f n) (.inr "when") = some (.str n) := by with_unfolding_all rfl
theorem kvP_merge (w : V) (s e : Str) (f : V) (n : Str) : mergeK [] [(.inr "wrap", w), (.inr "slot", .str s), (.inr "empty", .str e), (.inr "full", f), (.inr "when", .str n)] = kvP w s e f n := by with_unfolding_all rfl
local macro_rules | `(tactic| walk_at "dl") => `(tactic| first | with_reducible exact kvP_wrap _ _ _ _ _ | with_reducible exact kvP_slot _ _ _ _ _ | with_reducible exact kvP_empty _ _ _ _ _ | with_reducible exact kvP_full _ _ _ _ _ | with_reducible exact kvP_when _ _ _ _ _ | fail "dl")
def fS (d : Addr) : List (Str × V) := [("_parts", .ref d)]
theorem fS_p (d : Addr) : (fS d).lookup ("_parts" : Str) = some (V.ref d) := by unfold fS; walk_at "lk"
theorem fS_put (d : Addr) : putF "_parts" (.ref d) [] = fS d := rfl
local macro_rules | `(tactic| walk_at "lk") => `(tactic| exact fS_p _)
def IsScheme (A : Adr) (H : Hp) (p : Addr) (t : Pt) : Prop := ∃ dx d vw vf, H p = some (.ins A.c_Scheme dx (fS d)) ∧ H d = some (.dK (kvP vw t.slot t.empty vf t.wen)) ∧ IsWrap A H vw t.wrap ∧ IsFull A H vf t.full
theorem IsScheme.same {A : Adr} {H H' : Hp} {p : Addr} {t : Pt} (S : Same H H') : IsScheme A H p t → IsScheme A H' p t
  | ⟨dx, d, vw, vf, h1, h2, h3, h4⟩ => ⟨dx, d, vw, vf, S _ _ h1, S _ _ h2, h3.same S, h4.same S⟩
theorem nTrue {p : Prop} [Decidable p] (h : p) : (!decide p) = false := by rw [decide_eq_true h]; rfl
theorem nmask {s : Str} (h : s ≠ "mask") : decide (V.str s = V.str "mask") = false := decide_eq_false fun e => h (V.str.inj e)
local macro_rules | `(tactic| walk_at "bT") => `(tactic| first | with_reducible assumption | with_unfolding_all rfl | exact decide_eq_true (by omega) | exact Rd.inW (by with_reducible assumption) | fail "bT")
local macro_rules | `(tactic| walk_at "bF") => `(tactic| first | with_reducible assumption | with_unfolding_all rfl | exact nTrue (by omega) | (rw [Rd.inW (by with_reducible assumption)]; rfl) | fail "bF")

/-- the drawn parts, as tuples -/
def IsTurn (H : Hp) (v : V) : Wr → Prop
  | .width w => v = .int w
  | .form s b => ∃ p, v = .ref p ∧ H p = some (.tup [.int s, .int b])
def IsFill (H : Hp) (v : V) : Fl → Prop
  | .plain k => ∃ p, v = .ref p ∧ H p = some (.tup [.str k])
  | .lim k g s b => ∃ p q, v = .ref p ∧ H p = some (.tup [.str k, .str g, .ref q]) ∧ H q = some (.tup [.int s, .int b])
theorem IsTurn.same {H H' : Hp} {v : V} (S : Same H H') : ∀ {t : Wr}, IsTurn H v t → IsTurn H' v t
  | .width _, h => h
  | .form _ _, ⟨p, e, h⟩ => ⟨p, e, S _ _ h⟩
theorem IsFill.same {H H' : Hp} {v : V} (S : Same H H') : ∀ {t : Fl}, IsFill H v t → IsFill H' v t
  | .plain _, ⟨p, e, h⟩ => ⟨p, e, S _ _ h⟩
  | .lim _ _ _ _, ⟨p, q, e, h, g⟩ => ⟨p, q, e, S _ _ h, S _ _ g⟩
theorem IsTurn.frm {H H' : Hp} {a : Addr} {x y : Int} {v : V} (F : Frm a H H') (ha : H a = some (.lst [.int x, .int y])) : ∀ {t : Wr}, IsTurn H v t → IsTurn H' v t
  | .width _, h => h
  | .form _ _, ⟨p, e, h⟩ => ⟨p, e, F _ _ h (fun z => by rw [z, ha] at h; cases h)⟩
theorem IsTurn.frmS {H H' : Hp} {a : Addr} {o : HO} {v : V} (F : Frm a H H') (ha : H a = some o) (so : SrcO o) {t : Wr} (h : IsTurn H v t) : IsTurn H' v t := by
  obtain ⟨x, y, rfl, _⟩ := so
  exact h.frm F ha
def IsParts (H : Hp) (v : V) (t : Pt) : Prop := ∃ p vt vf, v = .ref p ∧ H p = some (.tup [vt, .str t.slot, .str t.empty, vf, .str t.wen]) ∧ IsTurn H vt t.wrap ∧ IsFill H vf t.full
theorem IsParts.same {H H' : Hp} {v : V} {t : Pt} (S : Same H H') : IsParts H v t → IsParts H' v t
  | ⟨p, vt, vf, e, h, h1, h2⟩ => ⟨p, vt, vf, e, S _ _ h, h1.same S, h2.same S⟩
/-- a pair of a slope and a base within the bounds -/
def Lim (H : Hp) (v : V) : Prop := ∃ p s b, v = .ref p ∧ H p = some (.tup [.int s, .int b]) ∧ 0 ≤ s ∧ s ≤ 4 ∧ -20 ≤ b ∧ b ≤ 20
theorem Lim.same {H H' : Hp} {v : V} (S : Same H H') : Lim H v → Lim H' v
  | ⟨p, s, b, e, h, g⟩ => ⟨p, s, b, e, S _ _ h, g⟩
theorem IsTurn.keep {H H' : Hp} {v : V} (S : ∀ p xs, H p = some (.tup xs) → H' p = some (.tup xs)) : ∀ {t : Wr}, IsTurn H v t → IsTurn H' v t
  | .width _, h => h
  | .form _ _, ⟨p, e, h⟩ => ⟨p, e, S _ _ h⟩
theorem IsFill.keep {H H' : Hp} {v : V} (S : ∀ p xs, H p = some (.tup xs) → H' p = some (.tup xs)) : ∀ {t : Fl}, IsFill H v t → IsFill H' v t
  | .plain _, ⟨p, e, h⟩ => ⟨p, e, S _ _ h⟩
  | .lim _ _ _ _, ⟨p, q, e, h, g⟩ => ⟨p, q, e, S _ _ h, S _ _ g⟩
theorem Lim.frmS {H H' : Hp} {a : Addr} {o : HO} {v : V} (F : Frm a H H') (ha : H a = some o) (so : SrcO o) : Lim H v → Lim H' v
  | ⟨p, s, b, e, h, g⟩ => ⟨p, s, b, e, F _ _ h (fun z => by obtain ⟨x, y, rfl, _⟩ := so; rw [z, ha] at h; cases h), g⟩

def modV (t : Wr) (n : Int) : Int := match t with
  | .width w => 1 * 2 ^ w.toNat
  | .form s b => s * n + b
/-- the slot of a counter -/
def slotV (k : Str) (n c : Int) : V := if k = "rest" then .int (c % n) else if k = "mask" then .int (Builtin.bitAnd c (n - 1)) else if c < n then .int c else if c < 2 * n then .int (c - n) else .non
theorem slot3 {k : Str} (h : k ∈ wSlot) : k = "rest" ∨ k = "mask" ∨ k = "off" := by
  simp only [wSlot, List.mem_cons, List.not_mem_nil, or_false] at h
  rcases h with h | h | h
  · exact .inl h
  · exact .inr (.inr h)
  · exact .inr (.inl h)
theorem mask_ne_rest : ¬ (("mask" : Str) = "rest") := by decide +kernel
theorem off_ne_rest : ¬ (("off" : Str) = "rest") := by decide +kernel
theorem off_ne_mask : ¬ (("off" : Str) = "mask") := by decide +kernel
theorem slotV_rest (n c : Int) : slotV "rest" n c = .int (c % n) := by unfold slotV; rw [if_pos rfl]
theorem slotV_mask (n c : Int) : slotV "mask" n c = .int (Builtin.bitAnd c (n - 1)) := by unfold slotV; rw [if_neg mask_ne_rest, if_pos rfl]
theorem slotV_off (n c : Int) : slotV "off" n c = if c < n then .int c else if c < 2 * n then .int (c - n) else .non := by unfold slotV; rw [if_neg off_ne_rest, if_neg off_ne_mask]
theorem strEq (x : Str) : decide (V.str x = V.str x) = true := decide_eq_true rfl
theorem strNe {x y : Str} (h : ¬ x = y) : decide (V.str x = V.str y) = false := decide_eq_false fun e => h (V.str.inj e)

/-- g is the gap of the counter c -/
def IsGap (k : Str) (n M c g : Int) : Prop := 1 ≤ g ∧ g ≤ M ∧ slotV k n ((c + g) % M) = slotV k n c ∧ ∀ h, 1 ≤ h → h < g → slotV k n ((c + h) % M) ≠ slotV k n c
theorem IsGap.one {k : Str} {n M c g g' : Int} (a : IsGap k n M c g) (b : IsGap k n M c g') : g = g' := by
  rcases Int.lt_trichotomy g g' with h | h | h
  · exact absurd a.2.2.1 (b.2.2.2 g a.1 h)
  · exact h
  · exact absurd b.2.2.1 (a.2.2.2 g' b.1 h)
theorem slotV_scal (k : Str) (n c s : Int) : scal (slotV k n c) (.int s) = true := by
  unfold slotV
  repeat' split
  all_goals rfl
theorem slotV_int {k : Str} {n c : Int} (h : slotV k n c ≠ .non) : ∃ s, slotV k n c = .int s := by
  unfold slotV at h ⊢
  repeat' split
  all_goals first | exact ⟨_, rfl⟩ | (exfalso; simp_all)
theorem pow_le {i : Nat} (h : i ≤ 100) : (2 : Int) ^ i ≤ 2 ^ 100 := by
  have : (2 : Nat) ^ i ≤ 2 ^ 100 := Nat.pow_le_pow_right (by decide) h
  exact_mod_cast this
theorem pow_pos2 (i : Nat) : (0 : Int) < 2 ^ i := Int.pow_pos (by decide)

local macro_rules | `(tactic| walk_at "exm") => `(tactic| with_reducible assumption)
theorem neSelf (x : V) : (!decide (x = x)) = false := by rw [decide_eq_true rfl]; rfl
local macro_rules | `(tactic| walk_at "bF") => `(tactic| first | exact neSelf _ | exact strNe (by with_reducible assumption) | fail "bF")
local macro_rules | `(tactic| walk_at "bT") => `(tactic| first | exact decide_eq_true (congrArg V.str (by with_reducible assumption)) | fail "bT")
local macro_rules | `(tactic| walk_at "sz") => `(tactic| first | ((with_reducible apply L2.small1000); (simp only [List.length_append, List.length_cons, List.length_nil]; omega)) | fail "sz")
theorem IsScheme.keepN {A : Adr} {H H' : Hp} {p : Addr} {t : Pt} (S : ∀ b o, H b = some o → (∀ xs, o ≠ .lst xs) → H' b = some o) : IsScheme A H p t → IsScheme A H' p t := by
  rintro ⟨dx, d, vw, vf, h1, h2, h3, h4⟩
  refine ⟨dx, d, vw, vf, S _ _ h1 (fun _ z => by cases z), S _ _ h2 (fun _ z => by cases z), ?_, ?_⟩
  · revert h3
    cases t.wrap with
    | width w => exact fun z => z
    | form s b => rintro ⟨q, dq, e, h⟩; exact ⟨q, dq, e, S _ _ h (fun _ z => by cases z)⟩
  · revert h4
    cases t.full with
    | plain k => rintro ⟨q, e, h⟩; exact ⟨q, e, S _ _ h (fun _ z => by cases z)⟩
    | lim k g s b => rintro ⟨q, r, dr, e, h, h'⟩; exact ⟨q, r, dr, e, S _ _ h (fun _ z => by cases z), S _ _ h' (fun _ z => by cases z)⟩

/-- what stands in a pool -/
def PoolO (H : Hp) (a : Addr) (o : HO) : Prop := ∃ (l : Addr) (ns : List Int) (i u c g : Int), o = .lst [.ref l, .int i, .int u, .int c, .int g] ∧ H l = some (.lst (ns.map V.int)) ∧ l ≠ a ∧ 0 ≤ i
theorem PoolO.same {H H' : Hp} {a : Addr} {o : HO} (h : PoolO H a o) (S : Same H H') : PoolO H' a o := by
  obtain ⟨l, ns, i, u, c, g, e, h1, h2, h3⟩ := h
  exact ⟨l, ns, i, u, c, g, e, S _ _ h1, h2, h3⟩
theorem PoolO.put {H : Hp} {a l : Addr} {ns : List Int} {i u c g : Int} (h : H l = some (.lst (ns.map V.int))) (n : l ≠ a) (i0 : 0 ≤ i) : PoolO (upd H a (.lst [.ref l, .int i, .int u, .int c, .int g])) a (.lst [.ref l, .int i, .int u, .int c, .int g]) :=
  ⟨l, ns, i, u, c, g, rfl, by rw [upd_ne n]; exact h, n, i0⟩
theorem PoolO.ntup {H : Hp} {a p : Addr} {o : HO} {xs : List V} (h : PoolO H a o) (ha : H a = some o) (hp : H p = some (.tup xs)) : p ≠ a := by
  obtain ⟨l, ns, i, u, c, g, rfl, _⟩ := h
  exact L2.ne_of hp ha (by intro z; cases z)
local macro_rules | `(tactic| walk_at "pool") => `(tactic| first | with_reducible assumption | ((with_reducible apply PoolO.same); (· with_reducible assumption); (· walk_at "frm")) | fail "pool")

def IsTests (H : Hp) (v : V) (e : Str) (f : Fl) : Prop := ∃ p vf, v = .ref p ∧ H p = some (.tup [.str e, vf]) ∧ IsFill H vf f
def IsRow (H : Hp) (v : V) (t : Pt) : Prop := ∃ p vt vf, v = .ref p ∧ H p = some (.tup [vt, .str t.slot, .str t.empty, vf]) ∧ IsTurn H vt t.wrap ∧ IsFill H vf t.full
theorem Frm.tups {H H' : Hp} {a : Addr} {o : HO} (F : Frm a H H') (ha : H a = some o) (ho : PoolO H a o) : ∀ p xs, H p = some (.tup xs) → H' p = some (.tup xs) := fun _ _ h => F _ _ h (ho.ntup ha h)
theorem Frm.plains {H H' : Hp} {a : Addr} {o : HO} (F : Frm a H H') (ha : H a = some o) (ho : PoolO H a o) : ∀ b u, H b = some u → (∀ xs, u ≠ .lst xs) → H' b = some u := fun b u h n => F _ _ h (by
  intro z
  obtain ⟨l, ns, i, v, c, g, rfl, _⟩ := ho
  rw [z, ha] at h
  exact n _ (Option.some.inj h).symm)
theorem Wf.wen {t : Pt} (h : Wf t) {w : Str} (hw : w ∈ wWhen) : Wf ⟨t.wrap, t.slot, t.empty, t.full, w⟩ := ⟨h.w, h.s, h.e, h.f, hw, h.m⟩

theorem SfreeR {H H' : Hp} {b : Nat} (h : H' b = none) (f : L2.Same H H') : H b = none := Sfree f h
/-- an object that is no integer: by its kind alone -/
def Odd (K : PySem.W.Frag) (H : Hp) (y : V) : Prop := ∃ t, TyX K H y t ∧ (PySem.W.kitOne K t (.type "int") = some false ∨ (PySem.W.kitOne K t (.type "int") = some true ∧ PySem.W.kitOne K t (.type "bool") = some true))
theorem Odd.same {K : PySem.W.Frag} {H H' : Hp} {y : V} (S : Same H H') (h : Odd K H y) : Odd K H' y := by
  obtain ⟨t, a, b⟩ := h
  exact ⟨t, Rd.tyx_same S a, b⟩
theorem oddV_odd {K : PySem.W.Frag} {H : Hp} {y : V} (h : Rd.OddV H y) : Odd K H y := by
  rcases h with h | ⟨b, rfl⟩
  · obtain ⟨t, hT, ty⟩ := h.ty (K := K)
    exact ⟨_, ty, .inl (Rd.kit_TS_int t hT)⟩
  · exact ⟨_, L2.TyX.base (L2.TyOf.bl _), .inr ⟨Rd.kit_bool_int, Rd.kit_bool_bool⟩⟩
local macro_rules | `(tactic| walk_at "tyx") => `(tactic| with_reducible assumption)
local macro_rules | `(tactic| walk_at "nn") => `(tactic| first | ((with_reducible apply SfreeR); (· with_reducible assumption); (· walk_at "frm")) | fail "nn")
local macro_rules | `(tactic| walk_at "odv") => `(tactic| first | with_reducible assumption | ((with_reducible apply Rd.OddV.sameR); (· with_reducible assumption); (· walk_at "frm")) | fail "odv")

/-- no size; no counter below M -/
def BadN (K : PySem.W.Frag) (H : Hp) (y : V) : Prop := (∃ i : Int, y = .int i ∧ i < 1) ∨ (∃ i : Int, y = .int i ∧ 1000000000000000000000000000000 < i) ∨ Odd K H y
def BadC (K : PySem.W.Frag) (H : Hp) (M : Int) (y : V) : Prop := (∃ i : Int, y = .int i ∧ i < 0) ∨ (∃ i : Int, y = .int i ∧ 0 ≤ i ∧ M ≤ i) ∨ Odd K H y
theorem BadN.same {K : PySem.W.Frag} {H H' : Hp} {y : V} (S : Same H H') (h : BadN K H y) : BadN K H' y := h.imp id fun h => h.imp id (Odd.same S)
theorem BadC.same {K : PySem.W.Frag} {H H' : Hp} {y : V} {M : Int} (S : Same H H') (h : BadC K H M y) : BadC K H' M y := h.imp id fun h => h.imp id (Odd.same S)

/-- a belief's fields -/
def fB (l M n : Int) : List (Str × V) := [("_lag", .int l), ("_modulus", .int M), ("_n", .int n)]
theorem fB_l (l M n : Int) : (fB l M n).lookup ("_lag" : Str) = some (V.int l) := by unfold fB; walk_at "lk"
theorem fB_M (l M n : Int) : (fB l M n).lookup ("_modulus" : Str) = some (V.int M) := by unfold fB; walk_at "lk"
theorem fB_n (l M n : Int) : (fB l M n).lookup ("_n" : Str) = some (V.int n) := by unfold fB; walk_at "lk"
theorem fB_put (l M n : Int) : putF "_n" (.int n) (putF "_modulus" (.int M) (putF "_lag" (.int l) [])) = fB l M n := by
  unfold fB
  simp only [L2.putF, q_lag_modulus, q_lag_n, q_modulus_n, if_false]
local macro_rules | `(tactic| walk_at "lk") => `(tactic| first | exact fB_l _ _ _ | exact fB_M _ _ _ | exact fB_n _ _ _)
def IsBel (A : Adr) (H : Hp) (p : Addr) (l M n : Int) : Prop := ∃ dx, H p = some (.ins A.c_Belief dx (fB l M n))
/-- the six words of a belief -/
def fieldsV (l M n : Int) : List V := [.int (l % M), .int (if l % M < n then 0 else l % M - n), .bl (decide (V.int (l % M) = V.int 0)), .bl (decide (l < M)), .bl (decide (l < M) || decide (n ≤ l % M)), .bl (decide (l < M))]
theorem eqv_six (a b : Int) (c d e f : Bool) : PySem.PyData.eqv (.list [.int a, .int b, .bool c, .bool d, .bool e, .bool f]) (.list [.int a, .int b, .bool c, .bool d, .bool e, .bool f]) = true := by simp [PySem.PyData.eqv, PySem.PyData.eqvAll]
theorem mod_self {l M : Int} (l0 : 0 ≤ l) (M1 : 1 ≤ M) : decide (V.int (l % M) = V.int l) = decide (l < M) := by
  rw [decide_eq_decide]
  constructor
  · intro h
    have e : l % M = l := V.int.inj h
    have := Int.emod_lt_of_pos l (show 0 < M by omega)
    omega
  · intro h
    rw [Int.emod_eq_of_lt l0 h]
theorem fieldsV_add {l M n : Int} (l0 : M ≤ l) (M1 : 1 ≤ M) : fieldsV (l + M) M n = fieldsV l M n := by
  unfold fieldsV
  rw [Int.add_emod_right, decide_eq_false (show ¬ l + M < M by omega), decide_eq_false (show ¬ l < M by omega)]
def Good (t : Pt) (n : Int) : Prop := modV t.wrap n % n = 0 ∧ ¬ (t.slot = "off" ∧ 2 * n < modV t.wrap n)
def LogOk (t : Pt) (n : Int) : Prop := t.wen = "over" ∧ Good t n
def BadM (K : PySem.W.Frag) (H : Hp) (m : Int) (y : V) : Prop := (∃ i : Int, y = .int i ∧ i < 0) ∨ (∃ i : Int, y = .int i ∧ 0 ≤ i ∧ m < i) ∨ Odd K H y
def BadL (K : PySem.W.Frag) (H : Hp) (y : V) : Prop := (∃ i : Int, y = .int i ∧ i < 0) ∨ (∃ i : Int, y = .int i ∧ 0 ≤ i ∧ 10000000000000000000000000000000000000000 < i) ∨ Odd K H y
theorem BadL.same {K : PySem.W.Frag} {H H' : Hp} {y : V} (S : Same H H') (h : BadL K H y) : BadL K H' y := h.imp id fun h => h.imp id (Odd.same S)
theorem neStr {x y : Str} (h : ¬ x = y) : (!decide (V.str x = V.str y)) = true := by rw [strNe h]; rfl
theorem neInt {x y : Int} (h : ¬ x = y) : (!decide (V.int x = V.int y)) = true := by rw [decide_eq_false fun e => h (V.int.inj e)]; rfl
local macro_rules | `(tactic| walk_at "bT") => `(tactic| first | exact neInt (by with_reducible assumption) | fail "bT")
local macro_rules | `(tactic| walk_at "bT") => `(tactic| first | exact neStr (by with_reducible assumption) | fail "bT")
local macro_rules | `(tactic| walk_at "bF") => `(tactic| first | exact nTrue (congrArg V.str (by with_reducible assumption)) | fail "bF")
local macro_rules | `(tactic| walk_at "bT") => `(tactic| first | exact decide_eq_true (by with_reducible assumption) | fail "bT")
local macro_rules | `(tactic| walk_at "bF") => `(tactic| first | exact decide_eq_false (by with_reducible assumption) | fail "bF")

theorem pow_pos3 (k : Nat) : (1 : Int) ≤ 2 ^ k := by
  have : (0 : Int) < 2 ^ k := Int.pow_pos (by decide)
  omega
theorem pow_mono3 {i j : Nat} (h : i ≤ j) : (2 : Int) ^ i ≤ 2 ^ j := by
  have : (2 : Nat) ^ i ≤ 2 ^ j := Nat.pow_le_pow_right (by decide) h
  exact_mod_cast this
theorem pow_le3 {i : Nat} (h : i ≤ 100) : (2 : Int) ^ i ≤ 1267650600228229401496703205376 := by
  have := pow_mono3 h
  have e : (2 : Int) ^ 100 = 1267650600228229401496703205376 := by decide +kernel
  omega
theorem pow_le99 {i : Nat} (h : i ≤ 99) : (2 : Int) ^ i ≤ 633825300114114700748351602688 := by
  have := pow_mono3 h
  have e : (2 : Int) ^ 99 = 633825300114114700748351602688 := by decide +kernel
  omega
theorem pow_dvd3 {i j : Nat} (h : i ≤ j) : (2 : Int) ^ j % 2 ^ i = 0 := by
  obtain ⟨r, rfl⟩ : ∃ r, j = i + r := ⟨j - i, by omega⟩
  rw [Int.pow_add, Int.mul_emod_right]
theorem idx_ok {b : Bool} {d : Int} (h0 : 0 ≤ d) (h1 : d < 2) : 0 ≤ (if b then (1 : Int) else 0) * d ∧ (if b then (1 : Int) else 0) * d < 2 ∧ ((if b then (1 : Int) else 0) * d = 1 → b = true) := by
  cases b
  · simp
  · simp; omega
theorem more_ok {n d : Int} (n1 : 1 ≤ n) (d0 : 0 ≤ d) : 0 ≤ n * (d % (1 + 20 / n)) ∧ n * (d % (1 + 20 / n)) ≤ 20 := by
  have q0 : 0 ≤ 20 / n := Int.ediv_nonneg (by decide) (by omega)
  have m0 := Int.emod_nonneg d (show 1 + 20 / n ≠ 0 by omega)
  have m1 := Int.emod_lt_of_pos d (show 0 < 1 + 20 / n by omega)
  have z := Int.mul_ediv_self_le (x := 20) (k := n) (by omega)
  have y : n * (d % (1 + 20 / n)) ≤ n * (20 / n) := Int.mul_le_mul_of_nonneg_left (by omega) (by omega)
  exact ⟨Int.mul_nonneg (by omega) m0, by omega⟩
theorem more2 {n d : Int} (n1 : 1 ≤ n) : 0 ≤ 20 / n ∧ 0 ≤ d % (1 + 20 / n) ∧ d % (1 + 20 / n) ≤ 20 := by
  have q0 : 0 ≤ 20 / n := Int.ediv_nonneg (by decide) (by omega)
  have q1 : 20 / n ≤ 20 := Int.ediv_le_self _ (by decide)
  have m0 := Int.emod_nonneg d (show 1 + 20 / n ≠ 0 by omega)
  have m1 := Int.emod_lt_of_pos d (show 0 < 1 + 20 / n by omega)
  exact ⟨q0, m0, by omega⟩
theorem mul_le3 {a n : Int} (a0 : 1 ≤ a) (a4 : a ≤ 4) (n0 : 1 ≤ n) : n ≤ a * n ∧ a * n ≤ 4 * n := by
  constructor
  · have := Int.mul_le_mul_of_nonneg_right a0 (show 0 ≤ n by omega)
    omega
  · exact Int.mul_le_mul_of_nonneg_right a4 (by omega)
theorem wfr {t : Pt} (w : WfW t.wrap) (s : t.slot ∈ wSlot) (e : t.empty ∈ wEmpty) (f : WfF t.full) (n : t.wen ∈ wWhen) (m : ∀ s b, t.wrap = .form s b → t.slot ≠ "mask") : Wf t := ⟨w, s, e, f, n, m⟩

theorem mod_ok {a n m : Int} (h : m % n = 0) : (a * n + m) % n = 0 := by
  rw [Int.add_emod, Int.mul_emod_left, h]; simp
theorem idx3 {b : Bool} {d : Int} (h : d < 2 + (if b then (1 : Int) else 0)) : d < ((3 : Nat) : Int) ∧ (d = ((2 : Nat) : Int) → b = true) := by
  cases b <;> simp at h ⊢ <;> omega
theorem wide_ok {d w : Int} (w0 : 0 ≤ w) (w1 : w ≤ 99) : 0 ≤ d % (1 + w + if decide (1 + w < 100) = true then 1 else 0) ∧ d % (1 + w + if decide (1 + w < 100) = true then 1 else 0) ≤ 99 ∧ d % (1 + w + if decide (1 + w < 100) = true then 1 else 0) ≤ 1 + w := by
  rcases (by omega : 1 + w < 100 ∨ 1 + w = 100) with h | h
  · rw [decide_eq_true h, if_pos rfl]
    have a := Int.emod_nonneg d (show 1 + w + 1 ≠ 0 by omega)
    have b := Int.emod_lt_of_pos d (show 0 < 1 + w + 1 by omega)
    exact ⟨a, by omega, by omega⟩
  · rw [decide_eq_false (show ¬ 1 + w < 100 by omega), if_neg (fun z => Bool.noConfusion z)]
    have a := Int.emod_nonneg d (show 1 + w + 0 ≠ 0 by omega)
    have b := Int.emod_lt_of_pos d (show 0 < 1 + w + 0 by omega)
    exact ⟨a, by omega, by omega⟩

theorem mul_le9 {M d : Int} (m1 : 1 ≤ M) (m2 : M ≤ 5000000000000000000000000000000) (d0 : 0 ≤ d) (d1 : d < 1000000000) : 0 ≤ M * d ∧ M * d ≤ 5000000000000000000000000000000 * 999999999 := by
  exact ⟨Int.mul_nonneg (by omega) d0, Int.mul_le_mul m2 (by omega) d0 (by decide)⟩
theorem mul_leF {M d : Int} (m1 : 1 ≤ M) (m2 : M ≤ 5000000000000000000000000000000) (d0 : 0 ≤ d) (d1 : d < 3) : M ≤ M * (1 + d) ∧ M * (1 + d) ≤ 5000000000000000000000000000000 * 3 := by
  constructor
  · have := Int.mul_le_mul_of_nonneg_left (show 1 ≤ 1 + d by omega) (show 0 ≤ M by omega)
    omega
  · exact Int.mul_le_mul m2 (by omega) (by omega) (by decide)
theorem mul_le1 {n d : Int} (n1 : 1 ≤ n) (d0 : 0 ≤ d) (d1 : d < 2) : 0 ≤ n * d ∧ n * d ≤ n := by
  rcases (by omega : d = 0 ∨ d = 1) with rfl | rfl
  · simp; omega
  · simp; omega

theorem small9 {n : Nat} (h : n ≤ 9000) : n < PySem.sizeLine := Nat.lt_of_le_of_lt h (by decide +kernel)

/-! ## periodic rows: the least period, the least start (mathematics of sets of sizes) -/
namespace M31
/-- a period of a row of truths -/
def Per (f : Int → Bool) (k : Int) : Prop := ∀ n, f (n + k) = f n
theorem Per.neg {f : Int → Bool} {k : Int} (h : Per f k) : Per f (-k) := fun n => by
  have := h (n + -k)
  rw [show n + -k + k = n by omega] at this
  exact this.symm
theorem Per.add {f : Int → Bool} {j k : Int} (h : Per f j) (g : Per f k) : Per f (j + k) := fun n => by
  rw [show n + (j + k) = n + j + k by omega, g, h]
theorem Per.zero {f : Int → Bool} : Per f 0 := fun n => by rw [Int.add_zero]
theorem Per.nmul {f : Int → Bool} {k : Int} (h : Per f k) : ∀ c : Nat, Per f ((c : Int) * k)
  | 0 => by simpa using Per.zero
  | c + 1 => by
    have := (Per.nmul h c).add h
    rwa [show ((c + 1 : Nat) : Int) * k = (c : Int) * k + k by rw [Int.natCast_add, Int.add_mul]; simp]
theorem Per.mul {f : Int → Bool} {k : Int} (h : Per f k) (c : Int) : Per f (c * k) := by
  rcases Int.le_total 0 c with g | g
  · obtain ⟨m, rfl⟩ := Int.eq_ofNat_of_zero_le g
    exact h.nmul m
  · obtain ⟨m, hm⟩ := Int.eq_ofNat_of_zero_le (show 0 ≤ -c by omega)
    have := (h.nmul m).neg
    rwa [← hm, ← Int.neg_mul, Int.neg_neg] at this
theorem Per.mod {f : Int → Bool} {j k : Int} (h : Per f j) (g : Per f k) : Per f (k % j) := by
  have e : k % j = k + -(k / j) * j := by
    have := Int.mul_ediv_add_emod k j
    rw [Int.neg_mul, Int.mul_comm (k / j) j]; omega
  rw [e]
  exact g.add (h.mul _)
/-- with a period there is one that divides and is no longer -/
theorem Per.dvd {f : Int → Bool} {p : Int} (hp : Per f p) : ∀ (m : Nat) (j : Int), j.toNat ≤ m → 1 ≤ j → Per f j → ∃ d, 1 ≤ d ∧ d ≤ j ∧ p % d = 0 ∧ Per f d
  | 0, j, hm, h1, _ => by omega
  | m + 1, j, hm, h1, hj => by
    rcases Decidable.em (p % j = 0) with z | z
    · exact ⟨j, h1, Int.le_refl _, z, hj⟩
    · have a := Int.emod_nonneg p (show j ≠ 0 by omega)
      have b := Int.emod_lt_of_pos p (show 0 < j by omega)
      obtain ⟨d, d1, d2, d3, d4⟩ := Per.dvd hp m (p % j) (by omega) (by omega) (hj.mod hp)
      exact ⟨d, d1, by omega, d3, d4⟩
/-- the value at a place of any window as long as the period -/
theorem Per.at {f : Int → Bool} {k : Int} (h : Per f k) (k1 : 1 ≤ k) (lo n : Int) : ∃ m, lo ≤ m ∧ m < lo + k ∧ f m = f n ∧ ∃ c, m = n + c * k := by
  refine ⟨lo + (n - lo) % k, ?_, ?_, ?_, ?_⟩
  · have := Int.emod_nonneg (n - lo) (show k ≠ 0 by omega); omega
  · have := Int.emod_lt_of_pos (n - lo) (show 0 < k by omega); omega
  · have e : lo + (n - lo) % k = n + -((n - lo) / k) * k := by
      have := Int.mul_ediv_add_emod (n - lo) k
      rw [Int.neg_mul, Int.mul_comm ((n - lo) / k) k]; omega
    rw [e]
    exact h.mul _ n
  · exact ⟨-((n - lo) / k), by
      have := Int.mul_ediv_add_emod (n - lo) k
      rw [Int.neg_mul, Int.mul_comm ((n - lo) / k) k]; omega⟩
/-- what holds in a window holds everywhere -/
theorem Per.win {f : Int → Bool} {p j lo : Int} (hp : Per f p) (p1 : 1 ≤ p) (h : ∀ n, lo ≤ n → n < lo + p → f (n + j) = f n) : Per f j := fun n => by
  obtain ⟨m, m1, m2, e, c, rfl⟩ := hp.at p1 lo n
  have := h _ m1 m2
  rw [e, show n + c * p + j = n + j + c * p by omega, hp.mul c] at this
  exact this
/-- the least period -/
structure Least (f : Int → Bool) (k : Int) : Prop where
  pos : 1 ≤ k
  per : Per f k
  min : ∀ j, 1 ≤ j → Per f j → k ≤ j
/-- least among those that divide a period: least of all -/
theorem Least.of {f : Int → Bool} {p k : Int} (hp : Per f p) (k1 : 1 ≤ k) (hk : Per f k) (h : ∀ j, 1 ≤ j → p % j = 0 → Per f j → k ≤ j) : Least f k :=
  ⟨k1, hk, fun j j1 hj => by
    obtain ⟨d, d1, d2, d3, d4⟩ := Per.dvd hp j.toNat j (Nat.le_refl _) j1 hj
    have := h d d1 d3 d4
    omega⟩
/-- two periodic rows that agree in a window long enough: the same least period, the same row -/
theorem Least.same {f g : Int → Bool} {k l lo hi : Int} (hf : Least f k) (hg : Least g l) (w : lo + k + l ≤ hi) (h : ∀ n, lo ≤ n → n < hi → f n = g n) : k = l ∧ ∀ n, f n = g n := by
  have fl : Per f l := hf.per.win hf.pos (lo := lo) fun n n1 n2 => by
    have a := hg.pos
    rw [h _ (by omega) (by omega), h n n1 (by omega), hg.per]
  have gk : Per g k := hg.per.win hg.pos (lo := lo) fun n n1 n2 => by
    have a := hf.pos
    rw [← h _ (by omega) (by omega), ← h n n1 (by omega), hf.per]
  have e : k = l := Int.le_antisymm (hf.min l hg.pos fl) (hg.min k hf.pos gk)
  subst e
  refine ⟨rfl, fun n => ?_⟩
  obtain ⟨m, m1, m2, em, c, rfl⟩ := hf.per.at hf.pos lo n
  have a := hf.pos
  have b := h _ m1 (by omega)
  rw [hf.per.mul c, hg.per.mul c] at b
  exact b
/-- ascending within bounds -/
def Asc (hi : Int) : Int → List Int → Prop
  | _, [] => True
  | lo, x :: r => lo ≤ x ∧ x ≤ hi ∧ Asc hi (x + 1) r
theorem Asc.mem {hi : Int} : ∀ {l : List Int} {lo : Int}, Asc hi lo l → ∀ x ∈ l, lo ≤ x ∧ x ≤ hi
  | y :: r, lo, ⟨h1, h2, h3⟩, x, hx => by
    rcases List.mem_cons.mp hx with rfl | hx
    · exact ⟨h1, h2⟩
    · have := Asc.mem h3 x hx; omega
/-- the ascending list of what a test takes -/
def up (f : Int → Bool) : Nat → Int → List Int
  | 0, _ => []
  | n + 1, lo => if f lo then lo :: up f n (lo + 1) else up f n (lo + 1)
theorem up_mem {f : Int → Bool} : ∀ {n : Nat} {lo x : Int}, x ∈ up f n lo ↔ lo ≤ x ∧ x < lo + n ∧ f x = true
  | 0, lo, x => by simp [up]; omega
  | n + 1, lo, x => by
    unfold up
    by_cases h : f lo = true
    · rw [if_pos h, List.mem_cons, up_mem]
      constructor
      · rintro (rfl | ⟨a, b, c⟩)
        · exact ⟨Int.le_refl _, by omega, h⟩
        · exact ⟨by omega, by omega, c⟩
      · rintro ⟨a, b, c⟩
        rcases Decidable.em (x = lo) with e | e
        · exact .inl e
        · exact .inr ⟨by omega, by omega, c⟩
    · rw [if_neg h, up_mem]
      constructor
      · rintro ⟨a, b, c⟩; exact ⟨by omega, by omega, c⟩
      · rintro ⟨a, b, c⟩
        rcases Decidable.em (x = lo) with e | e
        · subst e; exact absurd c h
        · exact ⟨by omega, by omega, c⟩
/-- an ascending list is what its membership takes -/
theorem Asc.up {f : Int → Bool} : ∀ {n : Nat} {lo : Int} {l : List Int}, Asc (lo + n - 1) lo l → (∀ x, lo ≤ x → x < lo + n → (f x = true ↔ x ∈ l)) → M31.up f n lo = l
  | 0, lo, [], _, _ => rfl
  | 0, lo, x :: r, ⟨h1, h2, _⟩, _ => by omega
  | n + 1, lo, l, ha, hm => by
    unfold M31.up
    cases l with
    | nil =>
      have z : f lo ≠ true := fun e => by have := (hm lo (Int.le_refl _) (by omega)).mp e; cases this
      rw [if_neg z]
      exact Asc.up (l := []) trivial fun x a b => hm x (by omega) (by omega)
    | cons y r =>
      obtain ⟨h1, h2, h3⟩ := ha
      rcases Decidable.em (y = lo) with e | e
      · subst e
        rw [if_pos ((hm y (Int.le_refl _) (by omega)).mpr List.mem_cons_self)]
        congr 1
        refine Asc.up (by rw [show y + 1 + (n : Int) - 1 = y + ((n + 1 : Nat) : Int) - 1 by omega]; exact h3) fun x a b => ?_
        rw [hm x (by omega) (by omega), List.mem_cons]
        constructor
        · rintro (rfl | h)
          · omega
          · exact h
        · exact .inr
      · have z : f lo ≠ true := fun e' => by
          rcases List.mem_cons.mp ((hm lo (Int.le_refl _) (by omega)).mp e') with q | q
          · exact e q.symm
          · have := h3.mem _ q; omega
        rw [if_neg z]
        refine Asc.up (l := y :: r) ⟨by omega, by omega, by rw [show lo + 1 + (n : Int) - 1 = lo + ((n + 1 : Nat) : Int) - 1 by omega]; exact h3⟩ fun x a b => ?_
        exact hm x (by omega) (by omega)
/-- the parts of a set of sizes -/
structure Rows where
  E : List Int
  s : Int
  p : Int
  R : List Int
structure Rows.Ok (w : Rows) : Prop where
  s1 : 1 ≤ w.s
  p1 : 1 ≤ w.p
  hE : Asc (w.s - 1) 1 w.E
  hR : Asc (w.p - 1) 0 w.R
def Rows.r (w : Rows) (n : Int) : Bool := decide (n % w.p ∈ w.R)
def Rows.has (w : Rows) (n : Int) : Bool := if n < w.s then decide (n ∈ w.E) else w.r n
theorem Rows.per (w : Rows) : Per w.r w.p := fun n => by
  show decide _ = decide _
  rw [Int.add_emod_right]
theorem Rows.has_r {w : Rows} {n : Int} (h : w.s ≤ n) : w.has n = w.r n := if_neg (by omega)
/-- the parts as a made set keeps them -/
structure Canon (w t : Rows) : Prop where
  s1 : 1 ≤ t.s
  s2 : t.s ≤ w.s
  k : Least w.r t.p
  kp : t.p ≤ w.p
  st : ∀ n, t.s ≤ n → n < w.s → w.has n = w.r n
  s3 : t.s = 1 ∨ w.has (t.s - 1) ≠ w.r (t.s - 1)
  E : t.E = w.E.filter (fun x => decide (x < t.s))
  R : t.R = w.R.filter (fun x => decide (x < t.p))
section
variable {w t : Rows}
theorem Canon.from (c : Canon w t) {n : Int} (h : t.s ≤ n) : w.has n = w.r n := by
  rcases Decidable.em (n < w.s) with g | g
  · exact c.st n h g
  · exact Rows.has_r (by omega)
theorem Canon.r (c : Canon w t) (n : Int) : t.r n = w.r n := by
  have k1 := c.k.pos
  have a := Int.emod_nonneg n (show t.p ≠ 0 by omega)
  have b := Int.emod_lt_of_pos n (show 0 < t.p by omega)
  have e : w.r (n % t.p) = w.r n := by
    have z := Int.mul_ediv_add_emod n t.p
    have y := c.k.per.mul (n / t.p) (n % t.p)
    rw [show n % t.p + n / t.p * t.p = n by rw [Int.mul_comm]; omega] at y
    exact y.symm
  have e2 : w.r (n % t.p) = decide (n % t.p ∈ w.R) := by
    show decide (n % t.p % w.p ∈ w.R) = _
    rw [Int.emod_eq_of_lt a (by have := c.kp; omega)]
  rw [← e, e2]
  show decide (n % t.p ∈ t.R) = _
  rw [c.R, decide_eq_decide, List.mem_filter]
  exact ⟨And.left, fun h => ⟨h, decide_eq_true b⟩⟩
theorem Canon.has (c : Canon w t) (n : Int) : t.has n = w.has n := by
  unfold Rows.has
  rcases Decidable.em (n < t.s) with h | h
  · have := c.s2
    rw [if_pos h, if_pos (show n < w.s by omega), c.E, decide_eq_decide, List.mem_filter]
    exact ⟨And.left, fun g => ⟨g, decide_eq_true h⟩⟩
  · rw [if_neg h, c.r n]
    exact (c.from (by omega)).symm
/-- it follows its period from its start on -/
theorem Canon.follows (c : Canon w t) {n : Int} (h : t.s ≤ n) : w.has n = w.has (n + t.p) := by
  have := c.k.pos
  rw [c.from h, c.from (by omega), c.k.per n]
/-- no shorter period -/
theorem Canon.short (o : w.Ok) (c : Canon w t) {j hi : Int} (j1 : 1 ≤ j) (j2 : j < t.p) (hh : w.s + w.p ≤ hi) : ∃ n, w.s ≤ n ∧ n < hi ∧ w.has n ≠ w.has (n + j) := by
  refine Classical.byContradiction fun z => ?_
  have hp : Per w.r j := w.per.win o.p1 (lo := w.s) fun n n1 n2 => by
    refine Decidable.byContradiction fun y => z ⟨n, n1, by omega, ?_⟩
    rw [Rows.has_r n1, Rows.has_r (by omega)]
    exact fun e => y e.symm
  have := c.k.min j j1 hp
  omega
/-- no earlier start -/
theorem Canon.early (c : Canon w t) (h : 1 < t.s) : w.has (t.s - 1) ≠ w.has (t.s - 1 + t.p) := by
  have := c.k.pos
  rw [c.from (n := t.s - 1 + t.p) (by omega), c.k.per]
  rcases c.s3 with z | z
  · omega
  · exact z
theorem Asc.lo {hi : Int} : ∀ {l : List Int} {a b : Int}, a ≤ b → Asc hi b l → Asc hi a l
  | [], _, _, _, _ => trivial
  | _ :: _, _, _, h, ⟨h1, h2, h3⟩ => ⟨by omega, h2, h3⟩
/-- of an ascending list those below a bound -/
theorem Asc.filter {hi m : Int} : ∀ {l : List Int} {lo : Int}, Asc hi lo l → Asc (m - 1) lo (l.filter (fun x => decide (x < m)))
  | [], _, _ => trivial
  | x :: r, lo, ⟨h1, h2, h3⟩ => by
    by_cases h : x < m
    · rw [List.filter_cons_of_pos (by simpa using h)]
      exact ⟨h1, by omega, Asc.filter h3⟩
    · rw [List.filter_cons_of_neg (by simpa using h)]
      exact Asc.lo (by omega) (Asc.filter h3)
theorem Asc.ext {hi lo : Int} {l l' : List Int} (h : Asc hi lo l) (h' : Asc hi lo l') (m : ∀ x, x ∈ l ↔ x ∈ l') : l = l' := by
  rcases Int.lt_or_le hi lo with g | g
  · have z : ∀ {q : List Int}, Asc hi lo q → q = [] := fun {q} hq => by
      cases q with
      | nil => rfl
      | cons x r => obtain ⟨a, b, _⟩ := hq; omega
    rw [z h, z h']
  · have e : lo + ((hi - lo + 1).toNat : Int) - 1 = hi := by omega
    have a := Asc.up (f := fun x => decide (x ∈ l)) (n := (hi - lo + 1).toNat) (lo := lo) (l := l) (by rw [e]; exact h) (fun x _ _ => by simp)
    have b := Asc.up (f := fun x => decide (x ∈ l)) (n := (hi - lo + 1).toNat) (lo := lo) (l := l') (by rw [e]; exact h') (fun x _ _ => by simpa using m x)
    rw [← a, b]
/-- two made sets that agree in a window long enough are the same -/
theorem Canon.ext {w' t' : Rows} (o : w.Ok) (o' : w'.Ok) (c : Canon w t) (c' : Canon w' t') {hi : Int} (h1 : w.s + w.p + w'.p ≤ hi) (h2 : w'.s + w.p + w'.p ≤ hi) (h : ∀ n, 1 ≤ n → n < hi → w.has n = w'.has n) :
    t.E = t'.E ∧ t.s = t'.s ∧ t.p = t'.p ∧ t.R = t'.R := by
  have s1 := o.s1
  have s1' := o'.s1
  have k1 := c.kp
  have k1' := c'.kp
  obtain ⟨ep, er⟩ := c.k.same c'.k (lo := if w.s ≤ w'.s then w'.s else w.s) (hi := hi) (by split <;> omega) fun n n1 n2 => by
    have a1 : w.s ≤ n := by split at n1 <;> omega
    have a2 : w'.s ≤ n := by split at n1 <;> omega
    rw [← Rows.has_r a1, ← Rows.has_r a2]
    exact h n (by omega) n2
  have es : t.s = t'.s := by
    have x1 := c.s1
    have x2 := c.s2
    have x1' := c'.s1
    have x2' := c'.s2
    have p1 := o.p1
    have p1' := o'.p1
    rcases Int.lt_trichotomy t.s t'.s with g | g | g
    · exfalso
      rcases c'.s3 with z | z
      · omega
      · apply z
        rw [← h _ (by omega) (by omega), c.from (by omega), er]
    · exact g
    · exfalso
      rcases c.s3 with z | z
      · omega
      · apply z
        rw [h _ (by omega) (by omega), c'.from (by omega), er]
  have x1 := c.s1
  have x2 := c.s2
  have x2' := c'.s2
  refine ⟨?_, es, ep, ?_⟩
  · rw [c.E, c'.E, es]
    refine Asc.ext (hi := t'.s - 1) (lo := 1) o.hE.filter o'.hE.filter fun x => ?_
    rw [List.mem_filter, List.mem_filter]
    have key : ∀ x, 1 ≤ x → x < t'.s → (x ∈ w.E ↔ x ∈ w'.E) := fun x a b => by
      have p1 := o.p1
      have p1' := o'.p1
      have z := h x a (by omega)
      unfold Rows.has at z
      rw [if_pos (by omega), if_pos (by omega)] at z
      exact decide_eq_decide.mp z
    constructor
    · rintro ⟨a, b⟩
      exact ⟨(key x (o.hE.mem x a).1 (of_decide_eq_true b)).mp a, b⟩
    · rintro ⟨a, b⟩
      exact ⟨(key x (o'.hE.mem x a).1 (of_decide_eq_true b)).mpr a, b⟩
  · rw [c.R, c'.R, ep]
    refine Asc.ext (hi := t'.p - 1) (lo := 0) o.hR.filter o'.hR.filter fun x => ?_
    rw [List.mem_filter, List.mem_filter]
    have key : ∀ x, 0 ≤ x → x < t'.p → (x ∈ w.R ↔ x ∈ w'.R) := fun x a b => by
      have z := er x
      unfold Rows.r at z
      rw [Int.emod_eq_of_lt a (by omega), Int.emod_eq_of_lt a (by omega)] at z
      exact decide_eq_decide.mp z
    constructor
    · rintro ⟨a, b⟩
      exact ⟨(key x (o.hR.mem x a).1 (of_decide_eq_true b)).mp a, b⟩
    · rintro ⟨a, b⟩
      exact ⟨(key x (o'.hR.mem x a).1 (of_decide_eq_true b)).mpr a, b⟩
end
end M31

open M31 (Rows Canon Asc Least Per)
/-- the marks of a list of numbers below an end -/
def mk (xs : List Int) (n : Nat) : List Bool := (List.range n).map fun (i : Nat) => decide ((i : Int) ∈ xs)
theorem mk_len (xs : List Int) (n : Nat) : (mk xs n).length = n := by unfold mk; rw [List.length_map, List.length_range]
theorem mk_nil (n : Nat) : mk [] n = List.replicate n false := by
  unfold mk
  rw [List.eq_replicate_iff]
  refine ⟨by rw [List.length_map, List.length_range], fun b hb => ?_⟩
  obtain ⟨i, _, rfl⟩ := List.mem_map.mp hb
  simp
theorem mk_at {xs : List Int} {n i : Nat} (h : i < n) : (mk xs n)[i]? = some (decide ((i : Int) ∈ xs)) := by
  unfold mk
  rw [List.getElem?_map, List.getElem?_range h]; rfl
theorem mk_set {xs : List Int} {n j : Nat} (h : j < n) : (mk xs n).set j true = mk (xs ++ [(j : Int)]) n := by
  refine List.ext_getElem? fun i => ?_
  rcases Nat.lt_or_ge i n with g | g
  · rw [mk_at g, List.getElem?_set]
    by_cases e : j = i
    · subst e
      rw [if_pos rfl, if_pos (by rw [mk_len]; exact h)]
      simp
    · rw [if_neg e, mk_at g]
      have : ¬ (i : Int) = (j : Int) := by omega
      simp [this]
  · rw [List.getElem?_eq_none (by rw [List.length_set, mk_len]; exact g), List.getElem?_eq_none (by rw [mk_len]; exact g)]
theorem ixN_of {n : Nat} {k : Int} (h0 : 0 ≤ k) (h1 : k < (n : Int)) : ixN n k = some k.toNat := by
  unfold L2.ixN
  rw [if_pos h0, if_pos h1]
theorem drop_atI {l : List Int} {i : Nat} {x : Int} (h : l[i]? = some x) : l.drop i = x :: l.drop (i + 1) := by
  obtain ⟨hi, e⟩ := List.getElem?_eq_some_iff.mp h
  rw [List.drop_eq_getElem_cons hi, e]
theorem map_rep {k : Nat} {l : List Bool} : (List.replicate k (l.map V.bl)).flatten = ((List.replicate k l).flatten).map V.bl := by
  rw [List.map_flatten, List.map_replicate]
/-- a part that makes the row by being repeated -/
def IsP (bs : List Bool) (k : Nat) : Prop := bs.length % k = 0 ∧ (List.replicate (bs.length / k) (bs.take k)).flatten = bs
local macro_rules | `(tactic| walk_at "dp") => `(tactic| first | ((with_reducible apply Rd.dp_listB); walk_at "hpl") | fail "dp")
local macro_rules | `(tactic| walk_at "shp") => `(tactic| first | exact Rd.shaped_listB _ | fail "shp")
local macro_rules | `(tactic| walk_at "sz") => `(tactic| exact small9 (by (try simp only [List.length_map, List.length_replicate] at *); omega))
local macro_rules | `(tactic| walk_at "kit") => `(tactic| first | with_reducible exact Rd.kt_list_list | fail "kit")
theorem div_nat {n j : Nat} : (((n : Nat) : Int) / (j : Int)).toNat = n / j := by
  rw [← Int.natCast_ediv, Int.toNat_natCast]
theorem rep_ok {bs : List Bool} {j : Nat} (b2 : bs.length ≤ 2000) : ((bs.take j).map V.bl).length * ((((bs.map V.bl).length : Nat) : Int) / (j : Int)).toNat ≤ PySem.sizeLine := by
  rw [div_nat, List.length_map, List.length_map]
  have a : (bs.take j).length ≤ j := List.length_take_le j bs
  have b := Nat.mul_le_mul_right (bs.length / j) a
  have c := Nat.mul_div_le bs.length j
  exact Nat.le_of_lt (small9 (by omega))
theorem rep_q {bs : List Bool} {j : Nat} (b2 : bs.length ≤ 2000) : 0 ≤ (((bs.map V.bl).length : Nat) : Int) / (j : Int) ∧ (((bs.map V.bl).length : Nat) : Int) / (j : Int) ≤ 2000 := by
  rw [List.length_map, ← Int.natCast_ediv]
  have := Nat.div_le_self bs.length j
  generalize bs.length / j = q at *
  omega
theorem isP_iff {bs : List Bool} {j : Nat} : IsP bs j ↔ (V.int ((((bs.map V.bl).length : Nat) : Int) % (j : Int)) = V.int 0) ∧
    PySem.PyData.eqv (.list (((List.replicate ((((bs.map V.bl).length : Nat) : Int) / (j : Int)).toNat (bs.take j)).flatten).map PySem.PyData.bool)) (.list (bs.map PySem.PyData.bool)) = true := by
  rw [Rd.eqv_listB, div_nat, List.length_map, decide_eq_true_eq, V.int.injEq, ← Int.natCast_emod]
  unfold IsP
  exact and_congr (by omega) Iff.rfl
theorem isP_len {bs : List Bool} (h : 1 ≤ bs.length) : IsP bs bs.length := by
  refine ⟨Nat.mod_self _, ?_⟩
  rw [Nat.div_self (by omega), List.take_length]
  simp
local macro_rules | `(tactic| walk_at "rep") => `(tactic| exact rep_ok (by with_reducible assumption))

theorem bat {bs : List Bool} {i : Int} (h0 : 0 ≤ i) (h1 : i < (bs.length : Int)) : ∃ x, atI (bs.map V.bl) i = some (.bl x) ∧ bs[i.toNat]? = some x := by
  obtain ⟨j, rfl⟩ := Int.eq_ofNat_of_zero_le h0
  have hj : j < bs.length := by omega
  refine ⟨bs[j], atI_nat (by rw [List.getElem?_map, List.getElem?_eq_getElem hj]; rfl), ?_⟩
  rw [Int.toNat_natCast, List.getElem?_eq_getElem hj]
theorem bmod {bs : List Bool} {i : Int} (h0 : 0 ≤ i) (h1 : 1 ≤ bs.length) : ∃ x, atI (bs.map V.bl) (i % (((bs.map V.bl).length : Nat) : Int)) = some (.bl x) ∧ bs[i.toNat % bs.length]? = some x := by
  obtain ⟨j, rfl⟩ := Int.eq_ofNat_of_zero_le h0
  rw [List.length_map, ← Int.natCast_emod]
  have hj : j % bs.length < bs.length := Nat.mod_lt _ (by omega)
  refine ⟨bs[j % bs.length], atI_nat (by rw [List.getElem?_map, List.getElem?_eq_getElem hj]; rfl), ?_⟩
  rw [Int.toNat_natCast, List.getElem?_eq_getElem hj]
theorem flat_at {l : List Bool} (h : 1 ≤ l.length) : ∀ (c i : Nat), i < c * l.length → (List.replicate c l).flatten[i]? = l[i % l.length]?
  | 0, i, hi => by omega
  | c + 1, i, hi => by
    rw [List.replicate_succ, List.flatten_cons]
    rcases Nat.lt_or_ge i l.length with g | g
    · rw [List.getElem?_append_left g, Nat.mod_eq_of_lt g]
    · rw [List.getElem?_append_right g, flat_at h c (i - l.length) (by rw [Nat.add_mul] at hi; omega)]
      congr 1
      conv => rhs; rw [show i = i - l.length + l.length by omega, Nat.add_mod_right]
theorem flat_len {l : List Bool} (c : Nat) : ((List.replicate c l).flatten).length = c * l.length := by
  induction c with
  | zero => simp
  | succ c ih => rw [List.replicate_succ, List.flatten_cons, List.length_append, ih, Nat.add_mul]; omega
/-- a part that makes the row: every place is that of its rest -/
theorem isP_at {bs : List Bool} {k : Nat} (k1 : 1 ≤ k) (k2 : k ≤ bs.length) : IsP bs k ↔ bs.length % k = 0 ∧ ∀ i, i < bs.length → bs[i]? = bs[i % k]? := by
  have tl : (bs.take k).length = k := by rw [List.length_take]; omega
  unfold IsP
  refine and_congr_right fun d => ?_
  have e : bs.length / k * k = bs.length := Nat.div_mul_cancel (Nat.dvd_of_mod_eq_zero d)
  have key : ∀ i, i < bs.length → ((List.replicate (bs.length / k) (bs.take k)).flatten)[i]? = bs[i % k]? := fun i hi => by
    rw [flat_at (by omega) _ _ (by rw [tl, e]; exact hi), tl, List.getElem?_take_of_lt (Nat.mod_lt _ (by omega))]
  constructor
  · intro h i hi
    rw [← key i hi, h]
  · intro h
    refine List.ext_getElem? fun i => ?_
    rcases Nat.lt_or_ge i bs.length with g | g
    · rw [key i g, h i g]
    · rw [List.getElem?_eq_none g, List.getElem?_eq_none (by rw [flat_len, tl, e]; exact g)]
theorem mk_r {w : Rows} (ok : w.Ok) {i : Nat} (h : (i : Int) < w.p) : (mk w.R w.p.toNat)[i]? = some (w.r i) := by
  rw [mk_at (by omega)]
  unfold Rows.r
  rw [Int.emod_eq_of_lt (by omega) h]
theorem isP_per {w : Rows} (ok : w.Ok) {k : Nat} (k1 : 1 ≤ k) (k2 : (k : Int) ≤ w.p) (d : w.p % (k : Int) = 0) : (∀ i : Nat, (i : Int) < w.p → w.r i = w.r ((i % k : Nat) : Int)) ↔ Per w.r k := by
  have p1 := ok.p1
  constructor
  · intro h
    refine w.per.win ok.p1 (lo := 0) fun n n0 n1 => ?_
    obtain ⟨i, rfl⟩ := Int.eq_ofNat_of_zero_le n0
    obtain ⟨p, hp⟩ := Int.eq_ofNat_of_zero_le (show 0 ≤ w.p by omega)
    have e1 : w.r ((i : Int) + k) = w.r (((i + k) % p : Nat) : Int) := by
      unfold Rows.r
      rw [hp, Int.natCast_emod, Int.natCast_add, Int.emod_emod]
    have dk : k ∣ p := by
      rw [hp, ← Int.natCast_emod] at d
      exact Nat.dvd_of_mod_eq_zero (by omega)
    rw [e1, h _ (by rw [hp]; have := Nat.mod_lt (i + k) (show 0 < p by omega); omega), h i (by omega), Nat.mod_mod_of_dvd _ dk, Nat.add_mod_right]
  · intro h i hi
    have y := h.mul ((i / k : Nat) : Int) ((i % k : Nat) : Int)
    rw [show ((i % k : Nat) : Int) + ((i / k : Nat) : Int) * (k : Int) = (i : Int) by
      have := Nat.mod_add_div i k
      rw [← Int.natCast_mul, ← Int.natCast_add, Nat.mul_comm (i / k) k, this]] at y
    exact y
theorem canon_of {w : Rows} (ok : w.Ok) {k : Nat} {st : Int} (k1 : 1 ≤ k) (k2 : k ≤ (mk w.R w.p.toNat).length) (hP : IsP (mk w.R w.p.toNat) k) (hmin : ∀ j, 1 ≤ j → j < k → ¬ IsP (mk w.R w.p.toNat) j)
    (s1 : 1 ≤ st) (s2 : st ≤ ((mk w.E w.s.toNat).length : Int)) (hs : ∀ n : Nat, st ≤ (n : Int) → n < (mk w.E w.s.toNat).length → (mk w.E w.s.toNat)[n]? = ((mk w.R w.p.toNat).take k)[n % ((mk w.R w.p.toNat).take k).length]?)
    (hb : st = 1 ∨ (mk w.E w.s.toNat)[(st - 1).toNat]? ≠ ((mk w.R w.p.toNat).take k)[(st - 1).toNat % ((mk w.R w.p.toNat).take k).length]?) :
    Canon w ⟨w.E.filter (fun x => decide (x < st)), st, (k : Int), w.R.filter (fun x => decide (x < (k : Int)))⟩ := by
  have p1 := ok.p1
  have w1 := ok.s1
  have bl : (mk w.R w.p.toNat).length = w.p.toNat := mk_len _ _
  have el : (mk w.E w.s.toNat).length = w.s.toNat := mk_len _ _
  have tl : ((mk w.R w.p.toNat).take k).length = k := by rw [List.length_take]; omega
  have pk : ∀ j : Nat, 1 ≤ j → (j : Int) ≤ w.p → (IsP (mk w.R w.p.toNat) j ↔ w.p % (j : Int) = 0 ∧ Per w.r j) := fun j j1 j2 => by
    rw [isP_at j1 (by omega), bl]
    have e : w.p.toNat % j = 0 ↔ w.p % (j : Int) = 0 := by
      have this : ((w.p.toNat : Nat) : Int) = w.p := by omega
      have q : w.p % (j : Int) = ((w.p.toNat % j : Nat) : Int) := by rw [Int.natCast_emod, this]
      rw [q]
      constructor
      · intro h; rw [h]; rfl
      · intro h; exact_mod_cast h
    rw [e]
    refine and_congr_right fun d => ?_
    rw [← isP_per ok j1 j2 d]
    constructor
    · intro h i hi
      have := h i (by omega)
      rw [mk_r ok hi, mk_r ok (by have := Nat.mod_lt i (show 0 < j by omega); omega)] at this
      exact Option.some.inj this
    · intro h i hi
      rw [mk_r ok (by omega), mk_r ok (by have := Nat.mod_lt i (show 0 < j by omega); omega), h i (by omega)]
  obtain ⟨hd, hper⟩ := (pk k k1 (by omega)).mp hP
  have rr : ∀ n : Nat, ((mk w.R w.p.toNat).take k)[n % ((mk w.R w.p.toNat).take k).length]? = some (w.r n) := fun n => by
    have hn := Nat.mod_lt n (show 0 < k by omega)
    rw [tl, List.getElem?_take_of_lt hn, mk_r ok (by omega)]
    congr 1
    have y := hper.mul ((n / k : Nat) : Int) ((n % k : Nat) : Int)
    rw [show ((n % k : Nat) : Int) + ((n / k : Nat) : Int) * (k : Int) = (n : Int) by
      have := Nat.mod_add_div n k
      rw [← Int.natCast_mul, ← Int.natCast_add, Nat.mul_comm (n / k) k, this]] at y
    exact y.symm
  have hh : ∀ n : Nat, (n : Int) < w.s → (mk w.E w.s.toNat)[n]? = some (w.has n) := fun n hn => by
    rw [mk_at (by omega)]
    unfold Rows.has
    rw [if_pos hn]
  refine ⟨s1, by show st ≤ w.s; omega, Least.of w.per (by show (1 : Int) ≤ k; omega) hper fun j j1 d hj => ?_, by show (k : Int) ≤ w.p; omega, fun n n1 n2 => ?_, ?_, rfl, rfl⟩
  · refine Classical.byContradiction fun z => ?_
    have z : j < (k : Int) := by have : ¬ (k : Int) ≤ j := z; omega
    obtain ⟨i, rfl⟩ := Int.eq_ofNat_of_zero_le (show 0 ≤ j by omega)
    exact hmin i (by omega) (by omega) ((pk i (by omega) (by omega)).mpr ⟨d, hj⟩)
  · have n1 : st ≤ n := n1
    obtain ⟨m, rfl⟩ := Int.eq_ofNat_of_zero_le (show 0 ≤ n by omega)
    have := hs m n1 (by omega)
    rw [hh m n2, rr m] at this
    exact Option.some.inj this
  · rcases hb with h | h
    · exact .inl h
    · right
      rw [hh _ (by omega), rr, show (((st - 1).toNat : Nat) : Int) = st - 1 by omega] at h
      exact fun z => h (congrArg some z)

/-- a set's fields -/
def fZ (k st : Int) (ea re em rm : Addr) : List (Str × V) := [("_period", .int k), ("_start", .int st), ("_early", .ref ea), ("_rests", .ref re), ("_early_marks", .ref em), ("_rest_marks", .ref rm)]
theorem fZ_1 (k st : Int) (ea re em rm : Addr) : (fZ k st ea re em rm).lookup ("_period" : Str) = some (V.int k) := by unfold fZ; walk_at "lk"
theorem fZ_2 (k st : Int) (ea re em rm : Addr) : (fZ k st ea re em rm).lookup ("_start" : Str) = some (V.int st) := by unfold fZ; walk_at "lk"
theorem fZ_3 (k st : Int) (ea re em rm : Addr) : (fZ k st ea re em rm).lookup ("_early" : Str) = some (V.ref ea) := by unfold fZ; walk_at "lk"
theorem fZ_4 (k st : Int) (ea re em rm : Addr) : (fZ k st ea re em rm).lookup ("_rests" : Str) = some (V.ref re) := by unfold fZ; walk_at "lk"
theorem fZ_5 (k st : Int) (ea re em rm : Addr) : (fZ k st ea re em rm).lookup ("_early_marks" : Str) = some (V.ref em) := by unfold fZ; walk_at "lk"
theorem fZ_6 (k st : Int) (ea re em rm : Addr) : (fZ k st ea re em rm).lookup ("_rest_marks" : Str) = some (V.ref rm) := by unfold fZ; walk_at "lk"
def fZ2 (k st : Int) : List (Str × V) := [("_period", .int k), ("_start", .int st)]
def fZ3 (k st : Int) (ea : Addr) : List (Str × V) := [("_period", .int k), ("_start", .int st), ("_early", .ref ea)]
theorem fZ2_put (k st : Int) : putF "_start" (.int st) (putF "_period" (.int k) []) = fZ2 k st := by unfold fZ2; simp only [L2.putF, q_period_start, if_false]
theorem fZ3_put (k st : Int) (ea : Addr) : putF "_early" (.ref ea) (fZ2 k st) = fZ3 k st ea := by unfold fZ3 fZ2; simp only [L2.putF, q_period_early, q_start_early, if_false]
theorem fZ_put (k st : Int) (ea re em rm : Addr) : putF "_rest_marks" (.ref rm) (putF "_early_marks" (.ref em) (putF "_rests" (.ref re) (fZ3 k st ea))) = fZ k st ea re em rm := by
  unfold fZ fZ3
  simp only [L2.putF, q_period_rests, q_start_rests, q_early_rests, q_period_early_marks, q_start_early_marks, q_early_early_marks, q_rests_early_marks, q_period_rest_marks, q_start_rest_marks, q_early_rest_marks, q_rests_rest_marks, q_early_marks_rest_marks, if_false]
theorem fZ2_s (k st : Int) : (fZ2 k st).lookup ("_start" : Str) = some (V.int st) := by unfold fZ2; walk_at "lk"
theorem fZ3_p (k st : Int) (ea : Addr) : (fZ3 k st ea).lookup ("_period" : Str) = some (V.int k) := by unfold fZ3; walk_at "lk"
local macro_rules | `(tactic| walk_at "lk") => `(tactic| first | exact fZ_1 _ _ _ _ _ _ | exact fZ_2 _ _ _ _ _ _ | exact fZ_3 _ _ _ _ _ _ | exact fZ_4 _ _ _ _ _ _ | exact fZ_5 _ _ _ _ _ _ | exact fZ_6 _ _ _ _ _ _ | exact fZ2_s _ _ | exact fZ3_p _ _ _)
local macro_rules | `(tactic| walk_at "sfl") => `(tactic| first | (unfold fZ2; with_unfolding_all exact Nat.le_of_ble_eq_true rfl) | (unfold fZ3; with_unfolding_all exact Nat.le_of_ble_eq_true rfl) | (unfold fZ3; (refine Rd.lput ?_); (repeat refine Rd.lputs ?_); with_unfolding_all exact Nat.le_of_ble_eq_true rfl) | fail "sfl")
/-- a made set -/
def IsSet (A : Adr) (H : Hp) (p : Addr) (w t : Rows) : Prop := ∃ (dx ea re em rm : Addr), H p = some (.ins A.c_SizeSet dx (fZ t.p t.s ea re em rm)) ∧ H ea = some (.lst (t.E.map V.int)) ∧ H re = some (.lst (t.R.map V.int)) ∧ H em = some (.lst ((mk w.E w.s.toNat).map V.bl)) ∧ H rm = some (.lst (((mk w.R w.p.toNat).take t.p.toNat).map V.bl))
theorem IsSet.same {A : Adr} {H H' : Hp} {p : Addr} {w t : Rows} (S : Same H H') : IsSet A H p w t → IsSet A H' p w t
  | ⟨dx, ea, re, em, rm, h1, h2, h3, h4, h5⟩ => ⟨dx, ea, re, em, rm, S _ _ h1, S _ _ h2, S _ _ h3, S _ _ h4, S _ _ h5⟩
/-- a made set survives what is changed at an old address -/
def SetKept (A : Adr) (a : Addr) (H1 : Hp) (p : Addr) (w t : Rows) : Prop := ∀ Hx, Frm a H1 Hx → IsSet A Hx p w t
theorem SetKept.at {A : Adr} {a p : Addr} {H1 Hx : Hp} {w t : Rows} (k : SetKept A a H1 p w t) (F : Frm a H1 Hx) : IsSet A Hx p w t := k Hx F
def SetNew (A : Adr) (H0 H1 : Hp) (p : Addr) (w t : Rows) : Prop := IsSet A H1 p w t ∧ ∀ a o, H0 a = some o → a ≠ p → SetKept A a H1 p w t
theorem set_new {A : Adr} {H0 H1 : Hp} {p dx ea re em rm : Addr} {w t : Rows} (h1 : H1 p = some (.ins A.c_SizeSet dx (fZ t.p t.s ea re em rm))) (h2 : H1 ea = some (.lst (t.E.map V.int))) (h3 : H1 re = some (.lst (t.R.map V.int))) (h4 : H1 em = some (.lst ((mk w.E w.s.toNat).map V.bl))) (h5 : H1 rm = some (.lst (((mk w.R w.p.toNat).take t.p.toNat).map V.bl)))
    (n : ∀ a o, H0 a = some o → a ≠ p → ea ≠ a ∧ re ≠ a ∧ em ≠ a ∧ rm ≠ a) : SetNew A H0 H1 p w t :=
  ⟨⟨dx, ea, re, em, rm, h1, h2, h3, h4, h5⟩, fun a o ha na Hx F => by
    obtain ⟨n1, n2, n3, n4⟩ := n a o ha na
    exact ⟨dx, ea, re, em, rm, F _ _ h1 na.symm, F _ _ h2 n1, F _ _ h3 n2, F _ _ h4 n3, F _ _ h5 n4⟩⟩
theorem filt_yes {l : List Int} {i : Nat} {x m : Int} (h : l[i]? = some x) (g : x < m) : ((l.take i).filter (fun x => decide (x < m))).map V.int ++ [V.int x] = ((l.take (i + 1)).filter (fun x => decide (x < m))).map V.int := by
  rw [List.take_add_one, h, List.filter_append]
  simp [g]
theorem filt_no {l : List Int} {i : Nat} {x m : Int} (h : l[i]? = some x) (g : ¬ x < m) : (l.take i).filter (fun x => decide (x < m)) = (l.take (i + 1)).filter (fun x => decide (x < m)) := by
  rw [List.take_add_one, h, List.filter_append]
  simp [g]
theorem asc_len {hi : Int} : ∀ {l : List Int} {lo : Int}, Asc hi lo l → (l.length : Int) ≤ hi - lo + 1 ∨ l = []
  | [], _, _ => .inr rfl
  | [x], lo, ⟨h1, h2, _⟩ => .inl (by simp; omega)
  | x :: y :: r, lo, ⟨h1, h2, h3⟩ => by
    rcases asc_len h3 with h | h
    · left; simp only [List.length_cons] at *; omega
    · cases h
theorem asc_200 {hi lo : Int} {l : List Int} (h : Asc hi lo l) (g : hi - lo + 1 ≤ 2000) : l.length ≤ 2000 := by
  rcases asc_len h with h | h
  · omega
  · subst h; simp

theorem IsSet.sameR {A : Adr} {H H' : Hp} {p : Addr} {w t : Rows} (h : IsSet A H p w t) (S : Same H H') : IsSet A H' p w t := h.same S
local macro_rules | `(tactic| walk_at "set") => `(tactic| first | with_reducible assumption | ((with_reducible apply SetKept.at); (· with_reducible assumption); (· walk_at "frm")) | ((with_reducible apply IsSet.sameR); (· with_reducible assumption); (· walk_at "frm")) | fail "set")
theorem fZ_least (k st : Int) (ea re em rm : Addr) : (fZ k st ea re em rm).lookup ("least" : Str) = none := by unfold fZ; walk_at "lk"
local macro_rules | `(tactic| walk_at "lk") => `(tactic| exact fZ_least _ _ _ _ _ _)

theorem at_early {w t : Rows} (c : Canon w t) {n : Int} (n1 : 1 ≤ n) (n2 : n < t.s) : atI ((mk w.E w.s.toNat).map V.bl) n = some (.bl (w.has n)) := by
  have s2 := c.s2
  obtain ⟨i, rfl⟩ := Int.eq_ofNat_of_zero_le (show 0 ≤ n by omega)
  refine atI_nat ?_
  rw [List.getElem?_map, mk_at (by omega)]
  unfold Rows.has
  rw [if_pos (by omega)]
  rfl
theorem at_rest {w t : Rows} (ok : w.Ok) (c : Canon w t) {n : Int} (n1 : 1 ≤ n) (n2 : t.s ≤ n) : atI (((mk w.R w.p.toNat).take t.p.toNat).map V.bl) (n % t.p) = some (.bl (w.has n)) := by
  have k1 := c.k.pos
  have kp := c.kp
  have a := Int.emod_nonneg n (show t.p ≠ 0 by omega)
  have b := Int.emod_lt_of_pos n (show 0 < t.p by omega)
  rw [c.from n2, ← c.r n]
  obtain ⟨i, hi⟩ := Int.eq_ofNat_of_zero_le a
  unfold Rows.r
  rw [hi]
  refine atI_nat ?_
  rw [List.getElem?_map, List.getElem?_take_of_lt (by omega), mk_at (by omega), c.R]
  show some (V.bl _) = _
  congr 2
  rw [decide_eq_decide, List.mem_filter]
  exact ⟨fun h => ⟨h, decide_eq_true (by omega)⟩, And.left⟩
/-- the least number of a set, or none -/
def LeastV (w t : Rows) (v : V) : Prop := (∃ n : Int, v = .int n ∧ 1 ≤ n ∧ w.has n = true ∧ ∀ m, 1 ≤ m → m < n → w.has m = false) ∨ (v = .non ∧ ∀ m, 1 ≤ m → m < t.s + t.p → w.has m = false)
local macro_rules | `(tactic| walk_at "dpt") => `(tactic| first | ((with_reducible apply Rd.dp_parts); (· walk_at "hpt"); (· walk_at "hpl"); (· walk_at "hpl")) | fail "dpt")
local macro_rules | `(tactic| walk_at "shp") => `(tactic| first | exact Rd.shaped_parts _ _ _ _ | fail "shp")

theorem up_snoc {f : Int → Bool} : ∀ (n : Nat) (lo : Int), M31.up f (n + 1) lo = M31.up f n lo ++ (if f (lo + n) then [lo + n] else [])
  | 0, lo => by simp [M31.up]
  | n + 1, lo => by
    have ih := up_snoc (f := f) n (lo + 1)
    have e : lo + 1 + (n : Int) = lo + ((n + 1 : Nat) : Int) := by omega
    rw [e] at ih
    conv => lhs; unfold M31.up
    conv => rhs; unfold M31.up
    rw [ih]
    split <;> simp
theorem up_len {f : Int → Bool} : ∀ (n : Nat) (lo : Int), (M31.up f n lo).length ≤ n
  | 0, _ => Nat.le_refl _
  | n + 1, lo => by
    have := up_len (f := f) n (lo + 1)
    unfold M31.up
    split
    · rw [List.length_cons]; omega
    · omega
theorem IsSet.raw {A : Adr} {H : Hp} {p : Addr} {w t : Rows} (h : IsSet A H p w t) : ∃ dx fs, H p = some (.ins A.c_SizeSet dx fs) := by
  obtain ⟨dx, ea, re, em, rm, h1, _⟩ := h
  exact ⟨_, _, h1⟩
theorem all_up {f g : Int → Bool} {n : Nat} : ((M31.up f n 1).map g).all id = true ↔ ∀ m : Int, 1 ≤ m → m < 1 + (n : Int) → f m = true → g m = true := by
  rw [List.all_eq_true]
  constructor
  · intro h m a b c
    exact h _ (List.mem_map.mpr ⟨m, M31.up_mem.mpr ⟨a, b, c⟩, rfl⟩)
  · intro h x hx
    obtain ⟨m, hm, rfl⟩ := List.mem_map.mp hx
    obtain ⟨a, b, c⟩ := M31.up_mem.mp hm
    exact h m a b c
/-- where both are told -/
def topV (a b : Int) : Int := if b < a then a else b

open M31 (Asc)
theorem asc_rg : ∀ (k : Nat) (a b : Int), (b - a).toNat = k → Asc (b - 1) a (Rd.rgI a b)
  | 0, a, b, h => by rw [Rd.rgI_nil (by omega)]; trivial
  | k + 1, a, b, h => by
    rw [Rd.rgI_cons (by omega)]
    exact ⟨Int.le_refl _, by omega, asc_rg k (a + 1) b (by omega)⟩
def rowsR (M : Int) : Rows := ⟨Rd.rgI 1 M, M, 1, []⟩
def rowsP (n M : Int) : Rows := ⟨Rd.rgI 1 M, M, M, Rd.rgI n M⟩
theorem rowsR_ok {M : Int} (h : 1 ≤ M) : (rowsR M).Ok := ⟨h, Int.le_refl _, asc_rg _ _ _ rfl, trivial⟩
theorem rowsP_ok {n M : Int} (n1 : 1 ≤ n) (h : 1 ≤ M) : (rowsP n M).Ok := ⟨h, h, asc_rg _ _ _ rfl, M31.Asc.lo (show (0 : Int) ≤ n by omega) (asc_rg _ _ _ rfl)⟩
theorem hasR {M l : Int} (l1 : 1 ≤ l) : (rowsR M).has l = decide (l < M) := by
  unfold Rows.has
  rcases Int.lt_or_le l M with h | h
  · rw [if_pos (show l < (rowsR M).s from h), decide_eq_true h]
    exact decide_eq_true (Rd.rgI_mem.mpr ⟨l1, h⟩)
  · rw [if_neg (show ¬ l < (rowsR M).s from Int.not_lt.mpr h), decide_eq_false (Int.not_lt.mpr h)]
    exact decide_eq_false (by intro z; cases z)
theorem hasP {n M l : Int} (M1 : 1 ≤ M) (l1 : 1 ≤ l) : (rowsP n M).has l = (decide (l < M) || decide (n ≤ l % M)) := by
  unfold Rows.has
  rcases Int.lt_or_le l M with h | h
  · rw [if_pos (show l < (rowsP n M).s from h), decide_eq_true h, Bool.true_or]
    exact decide_eq_true (Rd.rgI_mem.mpr ⟨l1, h⟩)
  · rw [if_neg (show ¬ l < (rowsP n M).s from Int.not_lt.mpr h), decide_eq_false (Int.not_lt.mpr h), Bool.false_or]
    have := Int.emod_lt_of_pos l (show 0 < M by omega)
    show decide (l % M ∈ Rd.rgI n M) = decide (n ≤ l % M)
    rw [decide_eq_decide, Rd.rgI_mem]
    exact ⟨fun z => z.1, fun z => ⟨z, this⟩⟩
theorem inR {M l : Int} (l1 : 1 ≤ l) : (decide (1 ≤ l) && (rowsR M).has l) = decide (l < M) := by rw [decide_eq_true l1, Bool.true_and, hasR l1]
theorem inP {n M l : Int} (M1 : 1 ≤ M) (l1 : 1 ≤ l) : (decide (1 ≤ l) && (rowsP n M).has l) = (decide (l < M) || decide (n ≤ l % M)) := by rw [decide_eq_true l1, Bool.true_and, hasP M1 l1]
theorem SetNew.mono {A : Adr} {H H0 H1 : Hp} {p : Addr} {w t : Rows} (S : ∀ a o, H a = some o → H0 a = some o) (h : SetNew A H0 H1 p w t) : SetNew A H H1 p w t := ⟨h.1, fun a o e n => h.2 a o (S a o e) n⟩
theorem n_le_M {t : Pt} {n : Int} (g : LogOk t n) (n1 : 1 ≤ n) (m : 1 ≤ modV t.wrap n) : n ≤ modV t.wrap n := Int.le_of_dvd (by omega) (Int.dvd_of_emod_eq_zero g.2.1)

theorem good_form {t : Pt} {s n m : Int} (w : t.wrap = .form s 0) (g : Good t n) (s1 : 1 ≤ s) (n1 : 1 ≤ n) (m1 : 1 ≤ m) : Good t m := by
  refine ⟨by rw [w]; show (s * m + 0) % m = 0; simp, fun z => g.2 ⟨z.1, ?_⟩⟩
  have h := z.2
  rw [w] at h ⊢
  have h : 2 * m < s * m + 0 := h
  show 2 * n < s * n + 0
  rcases (by omega : s ≤ 2 ∨ 3 ≤ s) with q | q
  · exfalso
    have := Int.mul_le_mul_of_nonneg_right q (show 0 ≤ m by omega)
    omega
  · have := Int.mul_le_mul_of_nonneg_right q (show 0 ≤ n by omega)
    omega

theorem orT {l M : Int} {b : Bool} (h : l < M) : (decide (l < M) || b) = true := by rw [decide_eq_true h]; rfl
local macro_rules | `(tactic| walk_at "bT") => `(tactic| first | exact orT (by with_reducible assumption) | fail "bT")
theorem orF {l M : Int} {b : Bool} (h : l < M) : (!(decide (l < M) || b)) = false := by rw [decide_eq_true h]; rfl
local macro_rules | `(tactic| walk_at "bF") => `(tactic| first | exact nTrue rfl | exact orF (by with_reducible assumption) | fail "bF")
theorem mod_le5 {M d e f : Int} (m1 : 1 ≤ M) (m2 : M ≤ 2000) (d0 : 0 ≤ d) (d1 : d < 5) : 0 ≤ M * d ∧ M * d ≤ 8000 := by
  constructor
  · exact Int.mul_nonneg (by omega) d0
  · have := Int.mul_le_mul m2 (show d ≤ 4 by omega) d0 (by decide)
    omega

section
variable {P : Program} {w : World} {K : PySem.W.Frag} {mg : Str → Option Value} {base : Heap} {A : Adr}
/-! has_outside -/
theorem sc_has_outside : FnScope ["kind", "n", "modulus"] ["kind", "n", "modulus"] (defScope s_has_outside) := ⟨rfl, rfl, rfl, by decide +kernel, rfl, by decide +kernel, by decide +kernel⟩
abbrev sp_has_outside (K : PySem.W.Frag) (A : Adr) : Sp := fun vs H Q _ => ∃ (k : Str) (n M : Int), vs = [.str k, .int n, .int M] ∧ 1 ≤ n ∧ n ≤ 1000000000000000000000000000000 ∧ Q (.bl (decide (k = "off" ∧ 2 * n < M))) H
theorem ok_has_outside (T : Txt w K mg A) : FnOk P w K mg base CX0 1 A.f_has_outside A.d_has_outside ["kind", "n", "modulus"] (sp_has_outside K A) := by
  refine T.F_has_outside.ok sc_has_outside (fun vs H Q E h => ?_) (fun cdv Ar outer s H vs Q E hr h => ?_)
  · obtain ⟨kd, n, M, rfl, n1, n2, k⟩ := h
    rfl
  · obtain ⟨kd, n, M, rfl, n1, n2, k⟩ := h
    have hu := hu_of hr
    have t_q_PART_NAMES := T.q_PART_NAMES
    have t_q_PART_WORDS_slot := T.q_PART_WORDS_slot
    have t_d_PART_WORDS_slot := T.d_PART_WORDS_slot
    have t_q_PART_WORDS_empty := T.q_PART_WORDS_empty
    have t_d_PART_WORDS_empty := T.d_PART_WORDS_empty
    have t_q_PART_WORDS_when := T.q_PART_WORDS_when
    have t_d_PART_WORDS_when := T.d_PART_WORDS_when
    have t_q_MEASURES := T.q_MEASURES
    have t_q_SIGNS := T.q_SIGNS
    have t_q_PLAIN_FULLS := T.q_PLAIN_FULLS
    have t_i_Form := T.i_Form
    have t_kt_Form_Form := T.kt_Form_Form
    have t_kt_int_Form := T.kt_int_Form
    have t_i_SizeSet := T.i_SizeSet
    have t_kt_SizeSet_SizeSet := T.kt_SizeSet_SizeSet
    have t_kt_tuple_SizeSet := T.kt_tuple_SizeSet
    have t_nf_Form_Form := T.nf_Form_Form
    have t_nf_int_Form := T.nf_int_Form
    have t_nf_SizeSet_SizeSet := T.nf_SizeSet_SizeSet
    have t_nf_tuple_SizeSet := T.nf_tuple_SizeSet
    have t_xm_NoSize_NoSize := T.xm_NoSize_NoSize
    have t_xm_NoRing_NoSize := T.xm_NoRing_NoSize
    have t_xm_NoRing_NoRing := T.xm_NoRing_NoRing
    have t_xm_NotDecided_NoSize := T.xm_NotDecided_NoSize
    have t_xm_NotDecided_NoRing := T.xm_NotDecided_NoRing
    have t_xm_NotDecided_NotDecided := T.xm_NotDecided_NotDecided
    have t_xm_NoLag_NoSize := T.xm_NoLag_NoSize
    have t_xm_NoLag_NoRing := T.xm_NoLag_NoRing
    have t_xm_NoLag_NotDecided := T.xm_NoLag_NotDecided
    have t_xm_NoLag_NoLag := T.xm_NoLag_NoLag
    have t_xm_TooLong_TooLong := T.xm_TooLong_TooLong
    have t_k_Form := T.k_Form
    have t_k_Scheme := T.k_Scheme
    have t_k_Belief := T.k_Belief
    have t_k_SizeSet := T.k_SizeSet
    rcases Decidable.em (kd = "off") with rfl | h
    · skip
      refine ⟨_, (pss_one (ps_ret (pe_and (pe_cmpR op_eq (pv 0) pe_str (nomark _)) (pe_one (pe_cmpR op_gt (pv 2) (pe_op op_mulW pe_int (pv 1)) (nomark _)))))), ?_⟩
      try dsimp only [L2.cxOf, L2.Cx.nox, L2.Cx.wish]
      with_reducible refine Rd.ret (Rd.andV (Rd.op (Rd.var (by walk_at "vr") (Rd.c (Rd.eqS (by walk_at "vr") (Rd.bl (Rd.iteT (by first | with_unfolding_all rfl | walk_at "bT") (Rd.op (Rd.var (by walk_at "vr") (Rd.op (Rd.c ?_)))))))))))
      with_reducible refine Rd.var (by walk_at "vr") (Rd.iC (by walk_at "scm") (Rd.i0 ?_))
      rw [show decide (("off" : Str) = "off" ∧ 2 * n < M) = decide (2 * n < M) from decide_eq_decide.mpr ⟨And.right, fun h => ⟨rfl, h⟩⟩] at k
      exact k
    · skip
      refine ⟨_, (pss_one (ps_ret (pe_and (pe_cmpR op_eq (pv 0) pe_str (nomark _)) (pe_one Rd.peN)))), ?_⟩
      try dsimp only [L2.cxOf, L2.Cx.nox, L2.Cx.wish]
      with_reducible refine Rd.ret (Rd.andV (Rd.op (Rd.var (by walk_at "vr") (Rd.c (Rd.eqS (by walk_at "vr") (Rd.bl (Rd.iteF (by walk_at "bF") ?_)))))))
      rw [decide_eq_false (fun z => h z.1)] at k
      exact k
/-! is_whole -/
theorem sc_is_whole : FnScope ["thing"] ["thing"] (defScope s_is_whole) := ⟨rfl, rfl, rfl, by decide +kernel, rfl, by decide +kernel, by decide +kernel⟩
abbrev sp_is_whole (K : PySem.W.Frag) (A : Adr) : Sp := fun vs H Q _ => ∃ y : V, vs = [y] ∧ ((∃ i : Int, y = .int i ∧ Q (.bl true) H) ∨ (Odd K H y ∧ Q (.bl false) H))
theorem ok_is_whole (T : Txt w K mg A) : FnOk P w K mg base CX0 1 A.f_is_whole A.d_is_whole ["thing"] (sp_is_whole K A) := by
  refine T.F_is_whole.ok sc_is_whole (fun vs H Q E h => ?_) (fun cdv Ar outer s H vs Q E hr h => ?_)
  · obtain ⟨y, rfl, hy⟩ := h
    rfl
  · obtain ⟨y, rfl, hy⟩ := h
    have hu := hu_of hr
    have t_q_PART_NAMES := T.q_PART_NAMES
    have t_q_PART_WORDS_slot := T.q_PART_WORDS_slot
    have t_d_PART_WORDS_slot := T.d_PART_WORDS_slot
    have t_q_PART_WORDS_empty := T.q_PART_WORDS_empty
    have t_d_PART_WORDS_empty := T.d_PART_WORDS_empty
    have t_q_PART_WORDS_when := T.q_PART_WORDS_when
    have t_d_PART_WORDS_when := T.d_PART_WORDS_when
    have t_q_MEASURES := T.q_MEASURES
    have t_q_SIGNS := T.q_SIGNS
    have t_q_PLAIN_FULLS := T.q_PLAIN_FULLS
    have t_i_Form := T.i_Form
    have t_kt_Form_Form := T.kt_Form_Form
    have t_kt_int_Form := T.kt_int_Form
    have t_i_SizeSet := T.i_SizeSet
    have t_kt_SizeSet_SizeSet := T.kt_SizeSet_SizeSet
    have t_kt_tuple_SizeSet := T.kt_tuple_SizeSet
    have t_nf_Form_Form := T.nf_Form_Form
    have t_nf_int_Form := T.nf_int_Form
    have t_nf_SizeSet_SizeSet := T.nf_SizeSet_SizeSet
    have t_nf_tuple_SizeSet := T.nf_tuple_SizeSet
    have t_xm_NoSize_NoSize := T.xm_NoSize_NoSize
    have t_xm_NoRing_NoSize := T.xm_NoRing_NoSize
    have t_xm_NoRing_NoRing := T.xm_NoRing_NoRing
    have t_xm_NotDecided_NoSize := T.xm_NotDecided_NoSize
    have t_xm_NotDecided_NoRing := T.xm_NotDecided_NoRing
    have t_xm_NotDecided_NotDecided := T.xm_NotDecided_NotDecided
    have t_xm_NoLag_NoSize := T.xm_NoLag_NoSize
    have t_xm_NoLag_NoRing := T.xm_NoLag_NoRing
    have t_xm_NoLag_NotDecided := T.xm_NoLag_NotDecided
    have t_xm_NoLag_NoLag := T.xm_NoLag_NoLag
    have t_xm_TooLong_TooLong := T.xm_TooLong_TooLong
    have t_k_Form := T.k_Form
    have t_k_Scheme := T.k_Scheme
    have t_k_Belief := T.k_Belief
    have t_k_SizeSet := T.k_SizeSet
    rcases hy with ⟨i, rfl, hk⟩ | ⟨⟨t, ty, kt | ⟨kt, kb⟩⟩, hk⟩
    · skip
      refine ⟨_, (pss_one (ps_ret (pe_and (pe_callB (Rd.isi (K := K) rfl) (by rfl) T.n_isinstance (by decide +kernel) (pa_cons (pv 0) (pa_cons (pe_bltn (v := .ty "int") (u := .type "int") (by rfl) T.n_int (by decide +kernel) rfl) pa_nil))) (pe_one (pe_not (pe_callB (Rd.isi (K := K) rfl) (by rfl) T.n_isinstance (by decide +kernel) (pa_cons (pv 0) (pa_cons (pe_bltn (v := .ty "bool") (u := .type "bool") (by rfl) T.n_bool (by decide +kernel) rfl) pa_nil)))))))), ?_⟩
      try dsimp only [L2.cxOf, L2.Cx.nox, L2.Cx.wish]
      with_reducible refine Rd.ret (Rd.andV (Rd.cB (Rd.cons (Rd.var (by walk_at "vr") (Rd.cons (Rd.c (Rd.nil ?_)))))))
      refine ⟨_, _, _, _, _, rfl, (by walk_at "clsv"), (by walk_at "tyx"), (by walk_at "kit"), ?_⟩
      with_reducible refine Rd.bl (Rd.iteT (by first | with_unfolding_all rfl | walk_at "bT") (Rd.notV (Rd.cB (Rd.cons (Rd.var (by walk_at "vr") (Rd.cons (Rd.c (Rd.nil ?_))))))))
      refine ⟨_, _, _, _, _, rfl, (by walk_at "clsv"), (by walk_at "tyx"), (by walk_at "kit"), ?_⟩
      with_reducible refine Rd.bl ?_
      exact hk
    · skip
      refine ⟨_, (pss_one (ps_ret (pe_and (pe_callB (Rd.isi (K := K) rfl) (by rfl) T.n_isinstance (by decide +kernel) (pa_cons (pv 0) (pa_cons (pe_bltn (v := .ty "int") (u := .type "int") (by rfl) T.n_int (by decide +kernel) rfl) pa_nil))) (pe_one Rd.peN)))), ?_⟩
      try dsimp only [L2.cxOf, L2.Cx.nox, L2.Cx.wish]
      with_reducible refine Rd.ret (Rd.andV (Rd.cB (Rd.cons (Rd.var (by walk_at "vr") (Rd.cons (Rd.c (Rd.nil ?_)))))))
      refine ⟨_, _, _, _, _, rfl, (by walk_at "clsv"), (by walk_at "tyx"), (by walk_at "kit"), ?_⟩
      with_reducible refine Rd.bl (Rd.iteF (by walk_at "bF") ?_)
      exact hk
    · skip
      refine ⟨_, (pss_one (ps_ret (pe_and (pe_callB (Rd.isi (K := K) rfl) (by rfl) T.n_isinstance (by decide +kernel) (pa_cons (pv 0) (pa_cons (pe_bltn (v := .ty "int") (u := .type "int") (by rfl) T.n_int (by decide +kernel) rfl) pa_nil))) (pe_one (pe_not (pe_callB (Rd.isi (K := K) rfl) (by rfl) T.n_isinstance (by decide +kernel) (pa_cons (pv 0) (pa_cons (pe_bltn (v := .ty "bool") (u := .type "bool") (by rfl) T.n_bool (by decide +kernel) rfl) pa_nil)))))))), ?_⟩
      try dsimp only [L2.cxOf, L2.Cx.nox, L2.Cx.wish]
      with_reducible refine Rd.ret (Rd.andV (Rd.cB (Rd.cons (Rd.var (by walk_at "vr") (Rd.cons (Rd.c (Rd.nil ?_)))))))
      refine ⟨_, _, _, _, _, rfl, (by walk_at "clsv"), (by walk_at "tyx"), (by walk_at "kit"), ?_⟩
      with_reducible refine Rd.bl (Rd.iteT (by walk_at "bT") (Rd.notV (Rd.cB (Rd.cons (Rd.var (by walk_at "vr") (Rd.cons (Rd.c (Rd.nil ?_))))))))
      refine ⟨_, _, _, _, _, rfl, (by walk_at "clsv"), (by walk_at "tyx"), (by walk_at "kit"), ?_⟩
      with_reducible refine Rd.bl ?_
      exact hk
/-! is_whole_from -/
theorem sc_is_whole_from : FnScope ["thing", "low", "high"] ["thing", "low", "high"] (defScope s_is_whole_from) := ⟨rfl, rfl, rfl, by decide +kernel, rfl, by decide +kernel, by decide +kernel⟩
abbrev sp_is_whole_from (K : PySem.W.Frag) (A : Adr) : Sp := fun vs H Q _ => ∃ (y : V) (lo hi : Int), vs = [y, .int lo, .int hi] ∧ ((∃ i : Int, y = .int i ∧ lo ≤ i ∧ i ≤ hi ∧ Q (.bl true) H) ∨ (∃ i : Int, y = .int i ∧ i < lo ∧ Q (.bl false) H) ∨ (∃ i : Int, y = .int i ∧ lo ≤ i ∧ hi < i ∧ Q (.bl false) H) ∨ (Odd K H y ∧ Q (.bl false) H))
theorem ok_is_whole_from (T : Txt w K mg A) : FnOk P w K mg base CX0 2 A.f_is_whole_from A.d_is_whole_from ["thing", "low", "high"] (sp_is_whole_from K A) := by
  refine T.F_is_whole_from.ok sc_is_whole_from (fun vs H Q E h => ?_) (fun cdv Ar outer s H vs Q E hr h => ?_)
  · obtain ⟨y, lo, hi, rfl, hy⟩ := h
    rfl
  · obtain ⟨y, lo, hi, rfl, hy⟩ := h
    have hu := hu_of hr
    have t_q_PART_NAMES := T.q_PART_NAMES
    have t_q_PART_WORDS_slot := T.q_PART_WORDS_slot
    have t_d_PART_WORDS_slot := T.d_PART_WORDS_slot
    have t_q_PART_WORDS_empty := T.q_PART_WORDS_empty
    have t_d_PART_WORDS_empty := T.d_PART_WORDS_empty
    have t_q_PART_WORDS_when := T.q_PART_WORDS_when
    have t_d_PART_WORDS_when := T.d_PART_WORDS_when
    have t_q_MEASURES := T.q_MEASURES
    have t_q_SIGNS := T.q_SIGNS
    have t_q_PLAIN_FULLS := T.q_PLAIN_FULLS
    have t_i_Form := T.i_Form
    have t_kt_Form_Form := T.kt_Form_Form
    have t_kt_int_Form := T.kt_int_Form
    have t_i_SizeSet := T.i_SizeSet
    have t_kt_SizeSet_SizeSet := T.kt_SizeSet_SizeSet
    have t_kt_tuple_SizeSet := T.kt_tuple_SizeSet
    have t_nf_Form_Form := T.nf_Form_Form
    have t_nf_int_Form := T.nf_int_Form
    have t_nf_SizeSet_SizeSet := T.nf_SizeSet_SizeSet
    have t_nf_tuple_SizeSet := T.nf_tuple_SizeSet
    have t_xm_NoSize_NoSize := T.xm_NoSize_NoSize
    have t_xm_NoRing_NoSize := T.xm_NoRing_NoSize
    have t_xm_NoRing_NoRing := T.xm_NoRing_NoRing
    have t_xm_NotDecided_NoSize := T.xm_NotDecided_NoSize
    have t_xm_NotDecided_NoRing := T.xm_NotDecided_NoRing
    have t_xm_NotDecided_NotDecided := T.xm_NotDecided_NotDecided
    have t_xm_NoLag_NoSize := T.xm_NoLag_NoSize
    have t_xm_NoLag_NoRing := T.xm_NoLag_NoRing
    have t_xm_NoLag_NotDecided := T.xm_NoLag_NotDecided
    have t_xm_NoLag_NoLag := T.xm_NoLag_NoLag
    have t_xm_TooLong_TooLong := T.xm_TooLong_TooLong
    have t_k_Form := T.k_Form
    have t_k_Scheme := T.k_Scheme
    have t_k_Belief := T.k_Belief
    have t_k_SizeSet := T.k_SizeSet
    rcases hy with ⟨i, rfl, h1, h2, hk⟩ | ⟨i, rfl, h1, hk⟩ | ⟨i, rfl, h1, h2, hk⟩ | ⟨ho, hk⟩
    · skip
      refine ⟨_, (pss_one (ps_ret (pe_and (pe_call (ok_is_whole T) (hr.mono (by decide)) (by rfl) T.m_is_whole T.F_is_whole.kp T.b_is_whole .nil pass0 (pa_cons (pv 0) pa_nil)) (pe_one (pe_chain op_le op_le (pv 1) (pv 0) (pv 2)))))), ?_⟩
      try dsimp only [L2.cxOf, L2.Cx.nox, L2.Cx.wish]
      with_reducible refine Rd.ret (Rd.andV (Rd.call (Rd.cons (Rd.var (by walk_at "vr") (Rd.nil ?_)))))
      refine ⟨_, rfl, .inl ⟨_, rfl, ?_⟩⟩
      with_reducible refine Rd.bl (Rd.iteT (by walk_at "bT") (Rd.chain (Rd.var (by walk_at "vr") (Rd.var (by walk_at "vr") (Rd.i0 (Rd.bl (Rd.iteT (by walk_at "bT") (Rd.var (by walk_at "vr") (Rd.i0 ?_)))))))))
      rw [decide_eq_true h2]
      exact hk
    · skip
      refine ⟨_, (pss_one (ps_ret (pe_and (pe_call (ok_is_whole T) (hr.mono (by decide)) (by rfl) T.m_is_whole T.F_is_whole.kp T.b_is_whole .nil pass0 (pa_cons (pv 0) pa_nil)) (pe_one (pe_chain op_le op_le (pv 1) (pv 0) Rd.peN))))), ?_⟩
      try dsimp only [L2.cxOf, L2.Cx.nox, L2.Cx.wish]
      with_reducible refine Rd.ret (Rd.andV (Rd.call (Rd.cons (Rd.var (by walk_at "vr") (Rd.nil ?_)))))
      refine ⟨_, rfl, .inl ⟨_, rfl, ?_⟩⟩
      with_reducible refine Rd.bl (Rd.iteT (by walk_at "bT") (Rd.chain (Rd.var (by walk_at "vr") (Rd.var (by walk_at "vr") (Rd.i0 (Rd.bl (Rd.iteF (by walk_at "bF") ?_)))))))
      exact hk
    · skip
      refine ⟨_, (pss_one (ps_ret (pe_and (pe_call (ok_is_whole T) (hr.mono (by decide)) (by rfl) T.m_is_whole T.F_is_whole.kp T.b_is_whole .nil pass0 (pa_cons (pv 0) pa_nil)) (pe_one (pe_chain op_le op_le (pv 1) (pv 0) (pv 2)))))), ?_⟩
      try dsimp only [L2.cxOf, L2.Cx.nox, L2.Cx.wish]
      with_reducible refine Rd.ret (Rd.andV (Rd.call (Rd.cons (Rd.var (by walk_at "vr") (Rd.nil ?_)))))
      refine ⟨_, rfl, .inl ⟨_, rfl, ?_⟩⟩
      with_reducible refine Rd.bl (Rd.iteT (by walk_at "bT") (Rd.chain (Rd.var (by walk_at "vr") (Rd.var (by walk_at "vr") (Rd.i0 (Rd.bl (Rd.iteT (by walk_at "bT") (Rd.var (by walk_at "vr") (Rd.i0 ?_)))))))))
      rw [decide_eq_false (by omega)]
      exact hk
    · skip
      refine ⟨_, (pss_one (ps_ret (pe_and (pe_call (ok_is_whole T) (hr.mono (by decide)) (by rfl) T.m_is_whole T.F_is_whole.kp T.b_is_whole .nil pass0 (pa_cons (pv 0) pa_nil)) (pe_one Rd.peN)))), ?_⟩
      try dsimp only [L2.cxOf, L2.Cx.nox, L2.Cx.wish]
      with_reducible refine Rd.ret (Rd.andV (Rd.call (Rd.cons (Rd.var (by walk_at "vr") (Rd.nil ?_)))))
      refine ⟨_, rfl, .inr ⟨(by with_reducible assumption), ?_⟩⟩
      with_reducible refine Rd.bl (Rd.iteF (by walk_at "bF") ?_)
      exact hk
/-! is_word_of -/
theorem sc_is_word_of : FnScope ["thing", "words"] ["thing", "words"] (defScope s_is_word_of) := ⟨rfl, rfl, rfl, by decide +kernel, rfl, by decide +kernel, by decide +kernel⟩
def sp_is_word_of (P : Program) (w : World) (mg : Str → Option Value) (base : Heap) (K : PySem.W.Frag) (A : Adr) : Sp := fun vs H Q E => vs.length = 2 ∧ ∀ (cdv : Value) (Ar : Around) (outer : List Env) (s : Shared), Room 0 (Ar.deeper (PyProof.Rows.envOfC "is_word_of" (defScope s_is_word_of) s.heap.objs.size A.f_is_word_of cdv)) → ∃ t, PSs (cxOf CX0 P w K mg base ["thing", "words"] "is_word_of" (defScope s_is_word_of) A.f_is_word_of cdv Ar outer s H E).nox (defBody s_is_word_of) t ∧ t { nx := fun _ H' => Q .non H', rt := Q } (start ["thing", "words"] vs) H
theorem in_is_word_of {vs : List V} {H : Hp} {Q : VK} {E : XK} (h : ∀ (cdv : Value) (Ar : Around) (outer : List Env) (s : Shared), Room 0 (Ar.deeper (PyProof.Rows.envOfC "is_word_of" (defScope s_is_word_of) s.heap.objs.size A.f_is_word_of cdv)) → ∃ t, PSs (cxOf CX0 P w K mg base ["thing", "words"] "is_word_of" (defScope s_is_word_of) A.f_is_word_of cdv Ar outer s H E).nox (defBody s_is_word_of) t ∧ t { nx := fun _ H' => Q .non H', rt := Q } (start ["thing", "words"] vs) H) (e : vs.length = 2) : sp_is_word_of P w mg base K A vs H Q E := ⟨e, h⟩
theorem ok_is_word_of (T : Txt w K mg A) : FnOk P w K mg base CX0 1 A.f_is_word_of A.d_is_word_of ["thing", "words"] (sp_is_word_of P w mg base K A) := T.F_is_word_of.ok sc_is_word_of (fun _ _ _ _ h => h.1) (fun cdv Ar outer s H vs Q E hr h => h.2 cdv Ar outer s hr)
/-! is_size -/
theorem sc_is_size : FnScope ["thing"] ["thing"] (defScope s_is_size) := ⟨rfl, rfl, rfl, by decide +kernel, rfl, by decide +kernel, by decide +kernel⟩
abbrev sp_is_size (K : PySem.W.Frag) (A : Adr) : Sp := fun vs H Q _ => ∃ y : V, vs = [y] ∧ ((∃ i : Int, y = .int i ∧ 1 ≤ i ∧ i ≤ 1000000000000000000000000000000 ∧ Q (.bl true) H) ∨ (∃ i : Int, y = .int i ∧ i < 1 ∧ Q (.bl false) H) ∨ (∃ i : Int, y = .int i ∧ 1 ≤ i ∧ 1000000000000000000000000000000 < i ∧ Q (.bl false) H) ∨ (Odd K H y ∧ Q (.bl false) H))
theorem ok_is_size (T : Txt w K mg A) : FnOk P w K mg base CX0 3 A.f_is_size A.d_is_size ["thing"] (sp_is_size K A) := by
  refine T.F_is_size.ok sc_is_size (fun vs H Q E h => ?_) (fun cdv Ar outer s H vs Q E hr h => ?_)
  · obtain ⟨y, rfl, hy⟩ := h
    rfl
  · obtain ⟨y, rfl, hy⟩ := h
    have hu := hu_of hr
    have t_q_PART_NAMES := T.q_PART_NAMES
    have t_q_PART_WORDS_slot := T.q_PART_WORDS_slot
    have t_d_PART_WORDS_slot := T.d_PART_WORDS_slot
    have t_q_PART_WORDS_empty := T.q_PART_WORDS_empty
    have t_d_PART_WORDS_empty := T.d_PART_WORDS_empty
    have t_q_PART_WORDS_when := T.q_PART_WORDS_when
    have t_d_PART_WORDS_when := T.d_PART_WORDS_when
    have t_q_MEASURES := T.q_MEASURES
    have t_q_SIGNS := T.q_SIGNS
    have t_q_PLAIN_FULLS := T.q_PLAIN_FULLS
    have t_i_Form := T.i_Form
    have t_kt_Form_Form := T.kt_Form_Form
    have t_kt_int_Form := T.kt_int_Form
    have t_i_SizeSet := T.i_SizeSet
    have t_kt_SizeSet_SizeSet := T.kt_SizeSet_SizeSet
    have t_kt_tuple_SizeSet := T.kt_tuple_SizeSet
    have t_nf_Form_Form := T.nf_Form_Form
    have t_nf_int_Form := T.nf_int_Form
    have t_nf_SizeSet_SizeSet := T.nf_SizeSet_SizeSet
    have t_nf_tuple_SizeSet := T.nf_tuple_SizeSet
    have t_xm_NoSize_NoSize := T.xm_NoSize_NoSize
    have t_xm_NoRing_NoSize := T.xm_NoRing_NoSize
    have t_xm_NoRing_NoRing := T.xm_NoRing_NoRing
    have t_xm_NotDecided_NoSize := T.xm_NotDecided_NoSize
    have t_xm_NotDecided_NoRing := T.xm_NotDecided_NoRing
    have t_xm_NotDecided_NotDecided := T.xm_NotDecided_NotDecided
    have t_xm_NoLag_NoSize := T.xm_NoLag_NoSize
    have t_xm_NoLag_NoRing := T.xm_NoLag_NoRing
    have t_xm_NoLag_NotDecided := T.xm_NoLag_NotDecided
    have t_xm_NoLag_NoLag := T.xm_NoLag_NoLag
    have t_xm_TooLong_TooLong := T.xm_TooLong_TooLong
    have t_k_Form := T.k_Form
    have t_k_Scheme := T.k_Scheme
    have t_k_Belief := T.k_Belief
    have t_k_SizeSet := T.k_SizeSet
    rcases hy with ⟨i, rfl, h1, h2, hk⟩ | ⟨i, rfl, h1, hk⟩ | ⟨i, rfl, h1, h2, hk⟩ | ⟨ho, hk⟩
    · skip
      refine ⟨_, (pss_one (ps_ret (pe_call (ok_is_whole_from T) (hr.mono (by decide)) (by rfl) T.m_is_whole_from T.F_is_whole_from.kp T.b_is_whole_from .nil pass0 (pa_cons (pv 0) (pa_cons pe_int (pa_cons (pe_glob (v := .int (1000000000000000000000000000000)) rfl T.m_GREATEST_SIZE ⟨_, rfl⟩) pa_nil)))))), ?_⟩
      try dsimp only [L2.cxOf, L2.Cx.nox, L2.Cx.wish]
      with_reducible refine Rd.ret (Rd.call (Rd.cons (Rd.var (by walk_at "vr") (Rd.cons (Rd.c (Rd.cons (Rd.c (Rd.nil ?_))))))))
      refine ⟨_, _, _, rfl, .inl ⟨_, rfl, (by walk_at "sc"), (by walk_at "sc"), ?_⟩⟩
      exact hk
    · skip
      refine ⟨_, (pss_one (ps_ret (pe_call (ok_is_whole_from T) (hr.mono (by decide)) (by rfl) T.m_is_whole_from T.F_is_whole_from.kp T.b_is_whole_from .nil pass0 (pa_cons (pv 0) (pa_cons pe_int (pa_cons (pe_glob (v := .int (1000000000000000000000000000000)) rfl T.m_GREATEST_SIZE ⟨_, rfl⟩) pa_nil)))))), ?_⟩
      try dsimp only [L2.cxOf, L2.Cx.nox, L2.Cx.wish]
      with_reducible refine Rd.ret (Rd.call (Rd.cons (Rd.var (by walk_at "vr") (Rd.cons (Rd.c (Rd.cons (Rd.c (Rd.nil ?_))))))))
      refine ⟨_, _, _, rfl, .inr (.inl ⟨_, rfl, (by walk_at "sc"), ?_⟩)⟩
      exact hk
    · skip
      refine ⟨_, (pss_one (ps_ret (pe_call (ok_is_whole_from T) (hr.mono (by decide)) (by rfl) T.m_is_whole_from T.F_is_whole_from.kp T.b_is_whole_from .nil pass0 (pa_cons (pv 0) (pa_cons pe_int (pa_cons (pe_glob (v := .int (1000000000000000000000000000000)) rfl T.m_GREATEST_SIZE ⟨_, rfl⟩) pa_nil)))))), ?_⟩
      try dsimp only [L2.cxOf, L2.Cx.nox, L2.Cx.wish]
      with_reducible refine Rd.ret (Rd.call (Rd.cons (Rd.var (by walk_at "vr") (Rd.cons (Rd.c (Rd.cons (Rd.c (Rd.nil ?_))))))))
      refine ⟨_, _, _, rfl, .inr (.inr (.inl ⟨_, rfl, (by walk_at "sc"), (by walk_at "sc"), ?_⟩))⟩
      exact hk
    · skip
      refine ⟨_, (pss_one (ps_ret (pe_call (ok_is_whole_from T) (hr.mono (by decide)) (by rfl) T.m_is_whole_from T.F_is_whole_from.kp T.b_is_whole_from .nil pass0 (pa_cons (pv 0) (pa_cons pe_int (pa_cons (pe_glob (v := .int (1000000000000000000000000000000)) rfl T.m_GREATEST_SIZE ⟨_, rfl⟩) pa_nil)))))), ?_⟩
      try dsimp only [L2.cxOf, L2.Cx.nox, L2.Cx.wish]
      with_reducible refine Rd.ret (Rd.call (Rd.cons (Rd.var (by walk_at "vr") (Rd.cons (Rd.c (Rd.cons (Rd.c (Rd.nil ?_))))))))
      refine ⟨_, _, _, rfl, .inr (.inr (.inr ⟨(by with_reducible assumption), ?_⟩))⟩
      exact hk
/-! check_size -/
theorem sc_check_size : FnScope ["n"] ["n"] (defScope s_check_size) := ⟨rfl, rfl, rfl, by decide +kernel, rfl, by decide +kernel, by decide +kernel⟩
abbrev sp_check_size (K : PySem.W.Frag) (A : Adr) : Sp := fun vs H Q E => ∃ y : V, vs = [y] ∧ ((∃ i : Int, y = .int i ∧ 1 ≤ i ∧ i ≤ 1000000000000000000000000000000 ∧ Q .non H) ∨ (∃ i : Int, y = .int i ∧ i < 1 ∧ E (.ref A.c_NoSize) none H) ∨ (∃ i : Int, y = .int i ∧ 1 ≤ i ∧ 1000000000000000000000000000000 < i ∧ E (.ref A.c_NoSize) none H) ∨ (Odd K H y ∧ E (.ref A.c_NoSize) none H))
theorem ok_check_size (T : Txt w K mg A) : FnOk P w K mg base (L2.CX P w) 4 A.f_check_size A.d_check_size ["n"] (sp_check_size K A) := by
  refine T.F_check_size.okX sc_check_size (fun vs H Q E h => ?_) (fun cdv Ar outer s H vs Q E hr h => ?_)
  · obtain ⟨y, rfl, hy⟩ := h
    rfl
  · obtain ⟨y, rfl, hy⟩ := h
    have hu := hu_of hr
    have t_q_PART_NAMES := T.q_PART_NAMES
    have t_q_PART_WORDS_slot := T.q_PART_WORDS_slot
    have t_d_PART_WORDS_slot := T.d_PART_WORDS_slot
    have t_q_PART_WORDS_empty := T.q_PART_WORDS_empty
    have t_d_PART_WORDS_empty := T.d_PART_WORDS_empty
    have t_q_PART_WORDS_when := T.q_PART_WORDS_when
    have t_d_PART_WORDS_when := T.d_PART_WORDS_when
    have t_q_MEASURES := T.q_MEASURES
    have t_q_SIGNS := T.q_SIGNS
    have t_q_PLAIN_FULLS := T.q_PLAIN_FULLS
    have t_i_Form := T.i_Form
    have t_kt_Form_Form := T.kt_Form_Form
    have t_kt_int_Form := T.kt_int_Form
    have t_i_SizeSet := T.i_SizeSet
    have t_kt_SizeSet_SizeSet := T.kt_SizeSet_SizeSet
    have t_kt_tuple_SizeSet := T.kt_tuple_SizeSet
    have t_nf_Form_Form := T.nf_Form_Form
    have t_nf_int_Form := T.nf_int_Form
    have t_nf_SizeSet_SizeSet := T.nf_SizeSet_SizeSet
    have t_nf_tuple_SizeSet := T.nf_tuple_SizeSet
    have t_xm_NoSize_NoSize := T.xm_NoSize_NoSize
    have t_xm_NoRing_NoSize := T.xm_NoRing_NoSize
    have t_xm_NoRing_NoRing := T.xm_NoRing_NoRing
    have t_xm_NotDecided_NoSize := T.xm_NotDecided_NoSize
    have t_xm_NotDecided_NoRing := T.xm_NotDecided_NoRing
    have t_xm_NotDecided_NotDecided := T.xm_NotDecided_NotDecided
    have t_xm_NoLag_NoSize := T.xm_NoLag_NoSize
    have t_xm_NoLag_NoRing := T.xm_NoLag_NoRing
    have t_xm_NoLag_NotDecided := T.xm_NoLag_NotDecided
    have t_xm_NoLag_NoLag := T.xm_NoLag_NoLag
    have t_xm_TooLong_TooLong := T.xm_TooLong_TooLong
    have t_k_Form := T.k_Form
    have t_k_Scheme := T.k_Scheme
    have t_k_Belief := T.k_Belief
    have t_k_SizeSet := T.k_SizeSet
    rcases hy with ⟨i, rfl, h1, h2, hk⟩ | ⟨i, rfl, h1, hk⟩ | ⟨i, rfl, h1, h2, hk⟩ | ⟨ho, hk⟩
    · skip
      refine ⟨_, (pss_one (ps_if (pt_not (pt_val (pe_call (ok_is_size T) (hr.mono (by decide)) (by rfl) T.m_is_size T.F_is_size.kp T.b_is_size .nil pass0 (pa_cons (pv 0) pa_nil)))) (pss_one ps_never) pss_nil)), ?_⟩
      try dsimp only [L2.cxOf, L2.Cx.nox, L2.Cx.wish]
      with_reducible refine Rd.ifS (Rd.not (Rd.tb (Rd.call (Rd.cons (Rd.var (by walk_at "vr") (Rd.nil ?_))))))
      refine ⟨_, rfl, .inl ⟨_, rfl, (by walk_at "sc"), (by walk_at "sc"), ?_⟩⟩
      with_reducible refine Rd.bl (Rd.iteF (by walk_at "bF") (Rd.next ?_))
      exact hk
    · skip
      refine ⟨_, (pss_one (ps_if (pt_not (pt_val (pe_call (ok_is_size T) (hr.mono (by decide)) (by rfl) T.m_is_size T.F_is_size.kp T.b_is_size .nil pass0 (pa_cons (pv 0) pa_nil)))) (pss_one (ps_raise rfl (takes_of rfl rfl rfl rfl) (pmk_own PySem.F.excBase_ValueError T.x_NoSize T.m_NoSize T.kp_NoSize (raises_own T.sb_NoSize T.tc_NoSize) rfl))) pss_nil)), ?_⟩
      try dsimp only [L2.cxOf, L2.Cx.nox, L2.Cx.wish]
      with_reducible refine Rd.ifS (Rd.not (Rd.tb (Rd.call (Rd.cons (Rd.var (by walk_at "vr") (Rd.nil ?_))))))
      refine ⟨_, rfl, .inr (.inl ⟨_, rfl, (by walk_at "sc"), ?_⟩)⟩
      with_reducible refine Rd.bl (Rd.iteT (by walk_at "bT") ?_)
      exact hk
    · skip
      refine ⟨_, (pss_one (ps_if (pt_not (pt_val (pe_call (ok_is_size T) (hr.mono (by decide)) (by rfl) T.m_is_size T.F_is_size.kp T.b_is_size .nil pass0 (pa_cons (pv 0) pa_nil)))) (pss_one (ps_raise rfl (takes_of rfl rfl rfl rfl) (pmk_own PySem.F.excBase_ValueError T.x_NoSize T.m_NoSize T.kp_NoSize (raises_own T.sb_NoSize T.tc_NoSize) rfl))) pss_nil)), ?_⟩
      try dsimp only [L2.cxOf, L2.Cx.nox, L2.Cx.wish]
      with_reducible refine Rd.ifS (Rd.not (Rd.tb (Rd.call (Rd.cons (Rd.var (by walk_at "vr") (Rd.nil ?_))))))
      refine ⟨_, rfl, .inr (.inr (.inl ⟨_, rfl, (by walk_at "sc"), (by walk_at "sc"), ?_⟩))⟩
      with_reducible refine Rd.bl (Rd.iteT (by walk_at "bT") ?_)
      exact hk
    · skip
      refine ⟨_, (pss_one (ps_if (pt_not (pt_val (pe_call (ok_is_size T) (hr.mono (by decide)) (by rfl) T.m_is_size T.F_is_size.kp T.b_is_size .nil pass0 (pa_cons (pv 0) pa_nil)))) (pss_one (ps_raise rfl (takes_of rfl rfl rfl rfl) (pmk_own PySem.F.excBase_ValueError T.x_NoSize T.m_NoSize T.kp_NoSize (raises_own T.sb_NoSize T.tc_NoSize) rfl))) pss_nil)), ?_⟩
      try dsimp only [L2.cxOf, L2.Cx.nox, L2.Cx.wish]
      with_reducible refine Rd.ifS (Rd.not (Rd.tb (Rd.call (Rd.cons (Rd.var (by walk_at "vr") (Rd.nil ?_))))))
      refine ⟨_, rfl, .inr (.inr (.inr ⟨(by with_reducible assumption), ?_⟩))⟩
      with_reducible refine Rd.bl (Rd.iteT (by walk_at "bT") ?_)
      exact hk
/-! is_ascending -/
theorem sc_is_ascending : FnScope ["thing", "low", "high", "least", "number"] ["thing", "low", "high"] (defScope s_is_ascending) := ⟨rfl, rfl, rfl, by decide +kernel, rfl, by decide +kernel, by decide +kernel⟩
theorem st_is_ascending {v0 v1 v2 : V} : L2.start ["thing", "low", "high", "least", "number"] [v0, v1, v2] = [some v0, some v1, some v2, none, none] := rfl
abbrev sp_is_ascending (K : PySem.W.Frag) (A : Adr) : Sp := fun vs H Q _ => ∃ (l : Addr) (ns : List Int) (lo hi : Int), vs = [.ref l, .int lo, .int hi] ∧ H l = some (.lst (ns.map V.int)) ∧ Asc hi lo ns ∧ Q (.bl true) H
theorem ok_is_ascending (T : Txt w K mg A) : FnOk P w K mg base CX0 3 A.f_is_ascending A.d_is_ascending ["thing", "low", "high"] (sp_is_ascending K A) := by
  refine T.F_is_ascending.ok sc_is_ascending (fun vs H Q E h => ?_) (fun cdv Ar outer s H vs Q E hr h => ?_)
  · obtain ⟨l, ns, lo, hi, rfl, hl, hA, k⟩ := h
    rfl
  · obtain ⟨l, ns, lo, hi, rfl, hl, hA, k⟩ := h
    have hu := hu_of hr
    have t_q_PART_NAMES := T.q_PART_NAMES
    have t_q_PART_WORDS_slot := T.q_PART_WORDS_slot
    have t_d_PART_WORDS_slot := T.d_PART_WORDS_slot
    have t_q_PART_WORDS_empty := T.q_PART_WORDS_empty
    have t_d_PART_WORDS_empty := T.d_PART_WORDS_empty
    have t_q_PART_WORDS_when := T.q_PART_WORDS_when
    have t_d_PART_WORDS_when := T.d_PART_WORDS_when
    have t_q_MEASURES := T.q_MEASURES
    have t_q_SIGNS := T.q_SIGNS
    have t_q_PLAIN_FULLS := T.q_PLAIN_FULLS
    have t_i_Form := T.i_Form
    have t_kt_Form_Form := T.kt_Form_Form
    have t_kt_int_Form := T.kt_int_Form
    have t_i_SizeSet := T.i_SizeSet
    have t_kt_SizeSet_SizeSet := T.kt_SizeSet_SizeSet
    have t_kt_tuple_SizeSet := T.kt_tuple_SizeSet
    have t_nf_Form_Form := T.nf_Form_Form
    have t_nf_int_Form := T.nf_int_Form
    have t_nf_SizeSet_SizeSet := T.nf_SizeSet_SizeSet
    have t_nf_tuple_SizeSet := T.nf_tuple_SizeSet
    have t_xm_NoSize_NoSize := T.xm_NoSize_NoSize
    have t_xm_NoRing_NoSize := T.xm_NoRing_NoSize
    have t_xm_NoRing_NoRing := T.xm_NoRing_NoRing
    have t_xm_NotDecided_NoSize := T.xm_NotDecided_NoSize
    have t_xm_NotDecided_NoRing := T.xm_NotDecided_NoRing
    have t_xm_NotDecided_NotDecided := T.xm_NotDecided_NotDecided
    have t_xm_NoLag_NoSize := T.xm_NoLag_NoSize
    have t_xm_NoLag_NoRing := T.xm_NoLag_NoRing
    have t_xm_NoLag_NotDecided := T.xm_NoLag_NotDecided
    have t_xm_NoLag_NoLag := T.xm_NoLag_NoLag
    have t_xm_TooLong_TooLong := T.xm_TooLong_TooLong
    have t_k_Form := T.k_Form
    have t_k_Scheme := T.k_Scheme
    have t_k_Belief := T.k_Belief
    have t_k_SizeSet := T.k_SizeSet
    refine ⟨_, (pss_cons (ps_if (pt_not (pt_val (pe_callB (Rd.isi (K := K) rfl) (by rfl) T.n_isinstance (by decide +kernel) (pa_cons (pv 0) (pa_cons (pe_bltn (v := .ty "list") (u := .type "list") (by rfl) T.n_list (by decide +kernel) rfl) pa_nil))))) (pss_one ps_never) pss_nil)
      (pss_cons (ps_set (i := 3) sc_is_ascending.nd rfl (Or.inl rfl) (pv 1))
      (pss_cons (ps_for PassesOwn.never rfl (pi_list (pv 0)) (pg_name (i := 4) sc_is_ascending.nd rfl (Or.inl rfl)) (pss_cons (ps_if (pt_not (pt_val (pe_call (ok_is_whole_from T) (hr.mono (by decide)) (by rfl) T.m_is_whole_from T.F_is_whole_from.kp T.b_is_whole_from .nil pass0 (pa_cons (pv 4) (pa_cons (pv 3) (pa_cons (pv 2) pa_nil)))))) (pss_one ps_never) pss_nil)
      (pss_one (ps_set (i := 3) sc_is_ascending.nd rfl (Or.inl rfl) (pe_op op_add (pv 4) pe_int)))))
      (pss_one (ps_ret pe_bl))))), ?_⟩
    try dsimp only [L2.cxOf, L2.Cx.nox, L2.Cx.wish]
    try rw [st_is_ascending]
    with_reducible refine Rd.seq (Rd.ifS (Rd.not (Rd.tb (Rd.cB (Rd.cons (Rd.var (by walk_at "vr") (Rd.cons (Rd.c (Rd.nil ?_)))))))))
    refine ⟨_, _, _, _, _, rfl, (by walk_at "clsv"), (by walk_at "tyx"), (by walk_at "kit"), ?_⟩
    with_reducible refine Rd.bl (Rd.iteF (by first | with_unfolding_all rfl | walk_at "bF") (Rd.next (Rd.seq (Rd.asg (Rd.var (by walk_at "vr") (Rd.name ?_))))))
    try dsimp only [Int.reduceToNat, List.set]
    with_reducible refine Rd.seq (Rd.fr (Rd.il (Rd.var (by walk_at "vr") (⟨_, rfl, ?_⟩))))
    refine ⟨⟨_, (by walk_at "hpl")⟩, for_list (xs := ns.map V.int) (fun (i : Nat) (σ : L2.St) (H' : Hp) => ∃ (lt : Int) (v4 : Option V), σ = [some (.ref l), some (.int lo), some (.int hi), some (.int lt), v4] ∧ H' = H ∧ Asc hi lt (ns.drop i)) ⟨_, _, rfl, rfl, hA⟩ (fun j σ H0 hj ⟨lt, v4, es, eh, hB⟩ => .of (by rw [eh]; exact hl)) (fun j x σ H0 hx ⟨lt, v4, es, eh, hB⟩ => ?_) (fun σ H0 ⟨lt, v4, es, eh, hB⟩ => ?_)⟩
    · subst es eh
      rw [List.getElem?_map] at hx
      obtain ⟨n, hn, rfl⟩ := Option.map_eq_some_iff.mp hx
      rw [drop_atI hn] at hB
      obtain ⟨b0, b1, hC⟩ := hB
      with_reducible refine Rd.name (Rd.seq (Rd.ifS (Rd.not (Rd.tb (Rd.call (Rd.cons (Rd.var (by walk_at "vr") (Rd.cons (Rd.var (by walk_at "vr") (Rd.cons (Rd.var (by walk_at "vr") ?_)))))))))))
      with_reducible refine Rd.nil ?_
      refine ⟨_, _, _, rfl, .inl ⟨_, rfl, (by walk_at "sc"), (by walk_at "sc"), ?_⟩⟩
      with_reducible refine Rd.bl (Rd.iteF (by walk_at "bF") (Rd.next (Rd.asg (Rd.op (Rd.var (by walk_at "vr") (Rd.c (Rd.i0 (Rd.name ?_))))))))
      try dsimp only [Int.reduceToNat, List.set]
      exact ⟨_, _, rfl, rfl, hC⟩
    · subst es eh
      with_reducible refine Rd.ret (Rd.c ?_)
      exact k
/-! check_parts -/
theorem sc_check_parts : FnScope ["early", "start", "period", "rests"] ["early", "start", "period", "rests"] (defScope s_check_parts) := ⟨rfl, rfl, rfl, by decide +kernel, rfl, by decide +kernel, by decide +kernel⟩
abbrev sp_check_parts (K : PySem.W.Frag) (A : Adr) : Sp := fun vs H Q _ => ∃ (le lr : Addr) (w : Rows), vs = [.ref le, .int w.s, .int w.p, .ref lr] ∧ H le = some (.lst (w.E.map V.int)) ∧ H lr = some (.lst (w.R.map V.int)) ∧ w.Ok ∧ w.s ≤ 2000 ∧ w.p ≤ 2000 ∧ Q .non H
theorem ok_check_parts (T : Txt w K mg A) : FnOk P w K mg base CX0 4 A.f_check_parts A.d_check_parts ["early", "start", "period", "rests"] (sp_check_parts K A) := by
  refine T.F_check_parts.ok sc_check_parts (fun vs H Q E h => ?_) (fun cdv Ar outer s H vs Q E hr h => ?_)
  · obtain ⟨le, lr, w, rfl, hE, hR, ok, sb, pb, k⟩ := h
    rfl
  · obtain ⟨le, lr, w, rfl, hE, hR, ok, sb, pb, k⟩ := h
    have hu := hu_of hr
    have t_q_PART_NAMES := T.q_PART_NAMES
    have t_q_PART_WORDS_slot := T.q_PART_WORDS_slot
    have t_d_PART_WORDS_slot := T.d_PART_WORDS_slot
    have t_q_PART_WORDS_empty := T.q_PART_WORDS_empty
    have t_d_PART_WORDS_empty := T.d_PART_WORDS_empty
    have t_q_PART_WORDS_when := T.q_PART_WORDS_when
    have t_d_PART_WORDS_when := T.d_PART_WORDS_when
    have t_q_MEASURES := T.q_MEASURES
    have t_q_SIGNS := T.q_SIGNS
    have t_q_PLAIN_FULLS := T.q_PLAIN_FULLS
    have t_i_Form := T.i_Form
    have t_kt_Form_Form := T.kt_Form_Form
    have t_kt_int_Form := T.kt_int_Form
    have t_i_SizeSet := T.i_SizeSet
    have t_kt_SizeSet_SizeSet := T.kt_SizeSet_SizeSet
    have t_kt_tuple_SizeSet := T.kt_tuple_SizeSet
    have t_nf_Form_Form := T.nf_Form_Form
    have t_nf_int_Form := T.nf_int_Form
    have t_nf_SizeSet_SizeSet := T.nf_SizeSet_SizeSet
    have t_nf_tuple_SizeSet := T.nf_tuple_SizeSet
    have t_xm_NoSize_NoSize := T.xm_NoSize_NoSize
    have t_xm_NoRing_NoSize := T.xm_NoRing_NoSize
    have t_xm_NoRing_NoRing := T.xm_NoRing_NoRing
    have t_xm_NotDecided_NoSize := T.xm_NotDecided_NoSize
    have t_xm_NotDecided_NoRing := T.xm_NotDecided_NoRing
    have t_xm_NotDecided_NotDecided := T.xm_NotDecided_NotDecided
    have t_xm_NoLag_NoSize := T.xm_NoLag_NoSize
    have t_xm_NoLag_NoRing := T.xm_NoLag_NoRing
    have t_xm_NoLag_NotDecided := T.xm_NoLag_NotDecided
    have t_xm_NoLag_NoLag := T.xm_NoLag_NoLag
    have t_xm_TooLong_TooLong := T.xm_TooLong_TooLong
    have t_k_Form := T.k_Form
    have t_k_Scheme := T.k_Scheme
    have t_k_Belief := T.k_Belief
    have t_k_SizeSet := T.k_SizeSet
    have s1 := ok.s1
    have p1 := ok.p1
    have aE := ok.hE
    have aR := ok.hR
    refine ⟨_, (pss_cons (ps_if (pt_not (pt_val (pe_call (ok_is_whole_from T) (hr.mono (by decide)) (by rfl) T.m_is_whole_from T.F_is_whole_from.kp T.b_is_whole_from .nil pass0 (pa_cons (pv 1) (pa_cons pe_int (pa_cons (pe_glob (v := .int (20000)) rfl T.m_GREATEST_START ⟨_, rfl⟩) pa_nil)))))) (pss_one ps_never) pss_nil)
      (pss_cons (ps_if (pt_not (pt_val (pe_call (ok_is_whole_from T) (hr.mono (by decide)) (by rfl) T.m_is_whole_from T.F_is_whole_from.kp T.b_is_whole_from .nil pass0 (pa_cons (pv 2) (pa_cons pe_int (pa_cons (pe_glob (v := .int (5000)) rfl T.m_GREATEST_PERIOD ⟨_, rfl⟩) pa_nil)))))) (pss_one ps_never) pss_nil)
      (pss_one (ps_if (PW.pt (pw_or (pt_not (pt_val (pe_call (ok_is_ascending T) (hr.mono (by decide)) (by rfl) T.m_is_ascending T.F_is_ascending.kp T.b_is_ascending .nil pass0 (pa_cons (pv 0) (pa_cons pe_int (pa_cons (pe_op op_sub (pv 1) pe_int) pa_nil)))))) (pw_or1 (pt_not (pt_val (pe_call (ok_is_ascending T) (hr.mono (by decide)) (by rfl) T.m_is_ascending T.F_is_ascending.kp T.b_is_ascending .nil pass0 (pa_cons (pv 3) (pa_cons pe_int (pa_cons (pe_op op_sub (pv 2) pe_int) pa_nil))))))))) (pss_one ps_never) pss_nil)))), ?_⟩
    try dsimp only [L2.cxOf, L2.Cx.nox, L2.Cx.wish]
    with_reducible refine Rd.seq (Rd.ifS (Rd.not (Rd.tb (Rd.call (Rd.cons (Rd.var (by walk_at "vr") (Rd.cons (Rd.c (Rd.cons (Rd.c (Rd.nil ?_)))))))))))
    refine ⟨_, _, _, rfl, .inl ⟨_, rfl, (by walk_at "sc"), (by walk_at "sc"), ?_⟩⟩
    with_reducible refine Rd.bl (Rd.iteF (by walk_at "bF") (Rd.next (Rd.seq (Rd.ifS (Rd.not (Rd.tb (Rd.call (Rd.cons (Rd.var (by walk_at "vr") (Rd.cons (Rd.c ?_)))))))))))
    with_reducible refine Rd.cons (Rd.c (Rd.nil ?_))
    refine ⟨_, _, _, rfl, .inl ⟨_, rfl, (by walk_at "sc"), (by walk_at "sc"), ?_⟩⟩
    with_reducible refine Rd.bl (Rd.iteF (by walk_at "bF") (Rd.next (Rd.ifS (Rd.or (Rd.not (Rd.tb (Rd.call (Rd.cons (Rd.var (by walk_at "vr") (Rd.cons (Rd.c ?_)))))))))))
    with_reducible refine Rd.cons (Rd.op (Rd.var (by walk_at "vr") (Rd.c (Rd.i0 (Rd.nil ?_)))))
    refine ⟨_, _, _, _, rfl, (by walk_at "hp"), (by assumption), ?_⟩
    with_reducible refine Rd.bl (Rd.iteF (by walk_at "bF") (Rd.not (Rd.tb (Rd.call (Rd.cons (Rd.var (by walk_at "vr") (Rd.cons (Rd.c (Rd.cons (Rd.op (Rd.var (by walk_at "vr") ?_)))))))))))
    with_reducible refine Rd.c (Rd.i0 (Rd.nil ?_))
    refine ⟨_, _, _, _, rfl, (by walk_at "hp"), (by assumption), ?_⟩
    with_reducible refine Rd.bl (Rd.iteF (by walk_at "bF") (Rd.next ?_))
    exact k
/-! least_start -/
theorem sc_least_start : FnScope ["early_marks", "rest_marks", "start"] ["early_marks", "rest_marks"] (defScope s_least_start) := ⟨rfl, rfl, rfl, by decide +kernel, rfl, by decide +kernel, by decide +kernel⟩
theorem st_least_start {v0 v1 : V} : L2.start ["early_marks", "rest_marks", "start"] [v0, v1] = [some v0, some v1, none] := rfl
abbrev sp_least_start (K : PySem.W.Frag) (A : Adr) : Sp := fun vs H Q _ => ∃ (a b : Addr) (eb rb : List Bool), vs = [.ref a, .ref b] ∧ SqL K H a (eb.map V.bl) ∧ SqL K H b (rb.map V.bl) ∧ 1 ≤ eb.length ∧ eb.length ≤ 2000 ∧ 1 ≤ rb.length ∧ rb.length ≤ 2000 ∧ ∀ st : Int, 1 ≤ st → st ≤ (eb.length : Int) → (∀ n : Nat, st ≤ (n : Int) → n < eb.length → eb[n]? = rb[n % rb.length]?) → (st = 1 ∨ eb[(st - 1).toNat]? ≠ rb[(st - 1).toNat % rb.length]?) → Q (.int st) H
theorem ok_least_start (T : Txt w K mg A) : FnOk P w K mg base CX0 1 A.f_least_start A.d_least_start ["early_marks", "rest_marks"] (sp_least_start K A) := by
  refine T.F_least_start.ok sc_least_start (fun vs H Q E h => ?_) (fun cdv Ar outer s H vs Q E hr h => ?_)
  · obtain ⟨a, b, eb, rb, rfl, ha, hb, e1, e2, r1, r2, k⟩ := h
    rfl
  · obtain ⟨a, b, eb, rb, rfl, ha, hb, e1, e2, r1, r2, k⟩ := h
    have hu := hu_of hr
    have t_q_PART_NAMES := T.q_PART_NAMES
    have t_q_PART_WORDS_slot := T.q_PART_WORDS_slot
    have t_d_PART_WORDS_slot := T.d_PART_WORDS_slot
    have t_q_PART_WORDS_empty := T.q_PART_WORDS_empty
    have t_d_PART_WORDS_empty := T.d_PART_WORDS_empty
    have t_q_PART_WORDS_when := T.q_PART_WORDS_when
    have t_d_PART_WORDS_when := T.d_PART_WORDS_when
    have t_q_MEASURES := T.q_MEASURES
    have t_q_SIGNS := T.q_SIGNS
    have t_q_PLAIN_FULLS := T.q_PLAIN_FULLS
    have t_i_Form := T.i_Form
    have t_kt_Form_Form := T.kt_Form_Form
    have t_kt_int_Form := T.kt_int_Form
    have t_i_SizeSet := T.i_SizeSet
    have t_kt_SizeSet_SizeSet := T.kt_SizeSet_SizeSet
    have t_kt_tuple_SizeSet := T.kt_tuple_SizeSet
    have t_nf_Form_Form := T.nf_Form_Form
    have t_nf_int_Form := T.nf_int_Form
    have t_nf_SizeSet_SizeSet := T.nf_SizeSet_SizeSet
    have t_nf_tuple_SizeSet := T.nf_tuple_SizeSet
    have t_xm_NoSize_NoSize := T.xm_NoSize_NoSize
    have t_xm_NoRing_NoSize := T.xm_NoRing_NoSize
    have t_xm_NoRing_NoRing := T.xm_NoRing_NoRing
    have t_xm_NotDecided_NoSize := T.xm_NotDecided_NoSize
    have t_xm_NotDecided_NoRing := T.xm_NotDecided_NoRing
    have t_xm_NotDecided_NotDecided := T.xm_NotDecided_NotDecided
    have t_xm_NoLag_NoSize := T.xm_NoLag_NoSize
    have t_xm_NoLag_NoRing := T.xm_NoLag_NoRing
    have t_xm_NoLag_NotDecided := T.xm_NoLag_NotDecided
    have t_xm_NoLag_NoLag := T.xm_NoLag_NoLag
    have t_xm_TooLong_TooLong := T.xm_TooLong_TooLong
    have t_k_Form := T.k_Form
    have t_k_Scheme := T.k_Scheme
    have t_k_Belief := T.k_Belief
    have t_k_SizeSet := T.k_SizeSet
    have el9 : (eb.map V.bl).length = eb.length := List.length_map _
    have rl9 : (rb.map V.bl).length = rb.length := List.length_map _
    refine ⟨_, (pss_cons (ps_set (i := 2) sc_least_start.nd rfl (Or.inl rfl) (pe_callB call_len_seq (by rfl) T.n_len PySem.boot_len (pa_cons (pv 0) pa_nil)))
      (pss_cons (ps_while PassesOwn.never (PW.pt (pw_and (pt_cmpR op_gt (pv 2) pe_int (nomark _)) (pw_and1 (pt_cmpR op_eq (pe_ix (Rd.ixLK rfl) (pv 0) (pe_op op_sub (pv 2) pe_int) (fun _ _ => rfl)) (pe_ix (Rd.ixLK rfl) (pv 1) (pe_op op_mod (pe_op op_sub (pv 2) pe_int) (pe_callB call_len_seq (by rfl) T.n_len PySem.boot_len (pa_cons (pv 1) pa_nil))) (fun _ _ => rfl)) (nomark _))))) (pss_one (ps_set (i := 2) sc_least_start.nd rfl (Or.inl rfl) (pe_op op_sub (pv 2) pe_int))))
      (pss_one (ps_ret (pv 2))))), ?_⟩
    try dsimp only [L2.cxOf, L2.Cx.nox, L2.Cx.wish]
    try rw [st_least_start]
    with_reducible refine Rd.seq (Rd.asg (Rd.cB (Rd.cons (Rd.var (by walk_at "vr") (Rd.nil (⟨_, _, rfl, (by walk_at "hpq"), (Rd.name ?_)⟩))))))
    try dsimp only [Int.reduceToNat, List.set]
    with_reducible refine Rd.seq ?_
    refine while_by (fun (σ : L2.St) (H' : Hp) => ∃ st : Int, σ = [some (.ref a), some (.ref b), some (.int st)] ∧ H' = H ∧ 1 ≤ st ∧ st ≤ (eb.length : Int) ∧ ∀ n : Nat, st ≤ (n : Int) → n < eb.length → eb[n]? = rb[n % rb.length]?) (fun σ _ => match σ[2]? with | some (some (V.int b)) => b.toNat | _ => 0) ⟨_, rfl, rfl, (by omega), (by omega), fun n a b => by omega⟩ (fun σ H0 ⟨st, es, eh, s1, s2, hs⟩ => ?_) ?_
    · subst es eh
      with_reducible refine Rd.and (Rd.test (Rd.op (Rd.var (by walk_at "vr") (Rd.c (Rd.i0 (Rd.bl ?_))))))
      refine Rd.ite (fun h0 => ?_) (fun h0 => ?_)
      · try simp only [decide_eq_true_eq, Bool.not_eq_true', decide_eq_false_iff_not, Bool.not_eq_true, Bool.not_eq_eq_eq_not, Bool.not_true, Bool.not_false] at h0
        with_reducible refine Rd.test (Rd.op (Rd.op (Rd.var (by walk_at "vr") (Rd.op (Rd.var (by walk_at "vr") (Rd.c (Rd.i0 ?_)))))))
        obtain ⟨x1, hx1, ex1⟩ := bat (bs := eb) (i := st - 1) (by omega) (by omega)
        refine Rd.ixL (by walk_at "hpl") hx1 ?_
        with_reducible refine Rd.op (Rd.var (by walk_at "vr") (Rd.op (Rd.op (Rd.var (by walk_at "vr") (Rd.c (Rd.i0 (Rd.cB (Rd.cons (Rd.var (by walk_at "vr") (Rd.nil (⟨_, _, rfl, (by walk_at "hpq"), ?_⟩)))))))))))
        with_reducible refine Rd.iC (by walk_at "sc") ?_
        obtain ⟨x2, hx2, ex2⟩ := bmod (bs := rb) (i := st - 1) (by omega) r1
        refine Rd.ixL (by walk_at "hpl") hx2 ?_
        with_reducible refine Rd.eqS (by walk_at "vr") (Rd.bl ?_)
        refine Rd.ite (fun h1 => ?_) (fun h1 => ?_)
        · try simp only [decide_eq_true_eq, Bool.not_eq_true', decide_eq_false_iff_not, Bool.not_eq_true, Bool.not_eq_eq_eq_not, Bool.not_true, Bool.not_false] at h1
          skip
          with_reducible refine Rd.asg (Rd.op (Rd.var (by walk_at "vr") (Rd.c (Rd.i0 (Rd.name ?_)))))
          try dsimp only [Int.reduceToNat, List.set]
          exact ⟨⟨st - 1, rfl, rfl, by omega, by omega, fun n a b => by
              rcases (by omega : st ≤ (n : Int) ∨ n = (st - 1).toNat) with q | q
              · exact hs n q b
              · subst q; rw [ex1, ex2, V.bl.inj h1]⟩, (by show (st - 1).toNat < st.toNat; omega)⟩
        · try simp only [decide_eq_true_eq, Bool.not_eq_true', decide_eq_false_iff_not, Bool.not_eq_true, Bool.not_eq_eq_eq_not, Bool.not_true, Bool.not_false, Int.not_lt, Int.not_le, Decidable.not_not] at h1
          skip
          with_reducible refine Rd.ret (Rd.var (by walk_at "vr") ?_)
          first | exact k st s1 s2 hs (.inl (by omega)) | exact k st s1 s2 hs (.inr (by rw [ex1, ex2]; exact fun z => h1 (congrArg V.bl (Option.some.inj z))))
      · try simp only [decide_eq_true_eq, Bool.not_eq_true', decide_eq_false_iff_not, Bool.not_eq_true, Bool.not_eq_eq_eq_not, Bool.not_true, Bool.not_false, Int.not_lt, Int.not_le, Decidable.not_not] at h0
        with_reducible refine Rd.iteF rfl ?_
        skip
        with_reducible refine Rd.ret (Rd.var (by walk_at "vr") ?_)
        first | exact k st s1 s2 hs (.inl (by omega)) | exact k st s1 s2 hs (.inr (by rw [ex1, ex2]; exact fun z => h1 (congrArg V.bl (Option.some.inj z))))
    · exact Rd.mAnd (Rd.mTest (Rd.mOp Rd.mI0 Rd.mVar Rd.mC)) (Rd.mTest (Rd.mOp Rd.mEq (Rd.mOp Rd.mIxL Rd.mVar (Rd.mOp Rd.mI0 Rd.mVar Rd.mC)) (Rd.mOp Rd.mIxL Rd.mVar (Rd.mOp Rd.mI (Rd.mOp Rd.mI0 Rd.mVar Rd.mC) (Rd.mLen (Rd.mCons Rd.mVar Rd.mNil))))))
/-! marks_of -/
theorem sc_marks_of : FnScope ["numbers", "end", "marks", "number", "_"] ["numbers", "end"] (defScope s_marks_of) := ⟨rfl, rfl, rfl, by decide +kernel, rfl, by decide +kernel, by decide +kernel⟩
theorem st_marks_of {v0 v1 : V} : L2.start ["numbers", "end", "marks", "number", "_"] [v0, v1] = [some v0, some v1, none, none, none] := rfl
abbrev sp_marks_of (K : PySem.W.Frag) (A : Adr) : Sp := fun vs H Q _ => ∃ (l : Addr) (ns : List Int) (e : Int), vs = [.ref l, .int e] ∧ SqL K H l (ns.map V.int) ∧ (∀ x ∈ ns, 0 ≤ x ∧ x < e) ∧ 0 ≤ e ∧ e ≤ 2000 ∧ ∀ (p : Addr) (H' : Hp), Same H H' → H p = none → H' p = some (.lst ((mk ns e.toNat).map V.bl)) → Q (.ref p) H'
theorem ok_marks_of (T : Txt w K mg A) : FnOk P w K mg base CX0 1 A.f_marks_of A.d_marks_of ["numbers", "end"] (sp_marks_of K A) := by
  refine T.F_marks_of.ok sc_marks_of (fun vs H Q E h => ?_) (fun cdv Ar outer s H vs Q E hr h => ?_)
  · obtain ⟨l, ns, e, rfl, hl, hm, e0, e1, k⟩ := h
    rfl
  · obtain ⟨l, ns, e, rfl, hl, hm, e0, e1, k⟩ := h
    have hu := hu_of hr
    have t_q_PART_NAMES := T.q_PART_NAMES
    have t_q_PART_WORDS_slot := T.q_PART_WORDS_slot
    have t_d_PART_WORDS_slot := T.d_PART_WORDS_slot
    have t_q_PART_WORDS_empty := T.q_PART_WORDS_empty
    have t_d_PART_WORDS_empty := T.d_PART_WORDS_empty
    have t_q_PART_WORDS_when := T.q_PART_WORDS_when
    have t_d_PART_WORDS_when := T.d_PART_WORDS_when
    have t_q_MEASURES := T.q_MEASURES
    have t_q_SIGNS := T.q_SIGNS
    have t_q_PLAIN_FULLS := T.q_PLAIN_FULLS
    have t_i_Form := T.i_Form
    have t_kt_Form_Form := T.kt_Form_Form
    have t_kt_int_Form := T.kt_int_Form
    have t_i_SizeSet := T.i_SizeSet
    have t_kt_SizeSet_SizeSet := T.kt_SizeSet_SizeSet
    have t_kt_tuple_SizeSet := T.kt_tuple_SizeSet
    have t_nf_Form_Form := T.nf_Form_Form
    have t_nf_int_Form := T.nf_int_Form
    have t_nf_SizeSet_SizeSet := T.nf_SizeSet_SizeSet
    have t_nf_tuple_SizeSet := T.nf_tuple_SizeSet
    have t_xm_NoSize_NoSize := T.xm_NoSize_NoSize
    have t_xm_NoRing_NoSize := T.xm_NoRing_NoSize
    have t_xm_NoRing_NoRing := T.xm_NoRing_NoRing
    have t_xm_NotDecided_NoSize := T.xm_NotDecided_NoSize
    have t_xm_NotDecided_NoRing := T.xm_NotDecided_NoRing
    have t_xm_NotDecided_NotDecided := T.xm_NotDecided_NotDecided
    have t_xm_NoLag_NoSize := T.xm_NoLag_NoSize
    have t_xm_NoLag_NoRing := T.xm_NoLag_NoRing
    have t_xm_NoLag_NotDecided := T.xm_NoLag_NotDecided
    have t_xm_NoLag_NoLag := T.xm_NoLag_NoLag
    have t_xm_TooLong_TooLong := T.xm_TooLong_TooLong
    have t_k_Form := T.k_Form
    have t_k_Scheme := T.k_Scheme
    have t_k_Belief := T.k_Belief
    have t_k_SizeSet := T.k_SizeSet
    refine ⟨_, (pss_cons (ps_setLc (i := 2) (own := [("_", 4)]) (g := gName 4) rfl sc_marks_of.nd rfl rfl (sw_true rfl rfl rfl (by decide +kernel)) (pi_range1 (by rfl) T.n_range (pa_cons (pv 1) pa_nil)) (blkOk_by (own := [("_", 4)]) (N := ["numbers", "end", "marks", "number", "_"]) (sc := defScope s_marks_of) (by decide +kernel)) (fun _ _ _ _ _ => (pg_name (i := 4) sc_marks_of.nd rfl (Or.inl rfl))) (fun _ _ _ _ _ => pts_nil) (fun _ _ _ _ _ => pe_bl))
      (pss_cons (ps_for PassesOwn.never rfl (pi_list (pv 0)) (pg_name (i := 3) sc_marks_of.nd rfl (Or.inl rfl)) (pss_one (ps_asg pe_bl (pg_sub (pv 2) (pv 3) set_list))))
      (pss_one (ps_ret (pv 2))))), ?_⟩
    try dsimp only [L2.cxOf, L2.Cx.nox, L2.Cx.wish]
    try rw [st_marks_of]
    with_reducible refine Rd.seq (Rd.asg (Rd.lc (Rd.rng1 (Rd.cons (Rd.var (by walk_at "vr") (Rd.nil (⟨_, rfl, (by walk_at "sc"), (by walk_at "sc"), ?_⟩)))))))
    intro D0 nD0
    refine' lc_range (lo := 0) (fun i H' => Same H H' ∧ H' D0 = some (.lst ((List.replicate i false).map V.bl))) (⟨by walk_at "frm", L2.upd_same⟩) (fun i H' hi p => ?lct0_u5) (fun H' p => ?lcd0_u5)
    case lct0_u5 =>
      obtain ⟨S9, hD⟩ := p
      have al9 : ((List.replicate i false).map V.bl).length ≤ 2900 := by rw [List.length_map, List.length_replicate]; omega
      with_reducible refine Rd.name ?_
      refine ⟨rfl, ?_⟩
      refine Rd.yes (Rd.iteT rfl ?_)
      with_reducible refine Rd.c ?_
      refine ⟨_, (by walk_at "hp"), (by walk_at "sz"), ?_⟩
      refine ⟨by walk_at "frm", ?_⟩
      rw [List.replicate_succ', List.map_append]
      exact L2.upd_same
    obtain ⟨S9, hD9⟩ := p
    with_reducible refine Rd.name ?_
    try dsimp only [Int.reduceToNat, List.set]
    skip
    with_reducible refine Rd.seq (Rd.fr (Rd.il (Rd.var (by walk_at "vr") (⟨_, rfl, ?_⟩))))
    have hl9 := Same.seq S9 hl
    refine ⟨⟨_, (by walk_at "hpl")⟩, for_list (xs := ns.map V.int) (fun (i : Nat) (σ : L2.St) (H' : Hp) => ∃ v3 v4 : Option V, σ = [some (.ref l), some (.int e), some (.ref D0), v3, v4] ∧ Same H H' ∧ H' D0 = some (.lst ((mk (ns.take i) e.toNat).map V.bl))) ⟨_, _, rfl, S9, (by rw [List.take_zero, mk_nil]; exact hD9)⟩ (fun j σ H0 hj ⟨v3, v4, es, S8, hD8⟩ => Same.seq S8 hl) (fun j x σ H0 hx ⟨v3, v4, es, S8, hD8⟩ => ?_) (fun σ H0 ⟨v3, v4, es, S8, hD8⟩ => ?_)⟩
    · subst es
      rw [List.getElem?_map] at hx
      obtain ⟨n, hn, rfl⟩ := Option.map_eq_some_iff.mp hx
      obtain ⟨b0, b1⟩ := hm n (List.mem_of_getElem? hn)
      with_reducible refine Rd.name (Rd.asg (Rd.c (Rd.sub (Rd.var (by walk_at "vr") (Rd.var (by walk_at "vr") ?_)))))
      refine Rd.setL hD8 (ixN_of (by omega) (by rw [List.length_map, mk_len]; omega)) ?_
      try dsimp only [Int.reduceToNat, List.set]
      refine ⟨_, _, rfl, ?_, ?_⟩
      · intro b o hb
        rw [L2.upd_ne (L2.ne_of_none hb nD0)]
        exact S8 _ _ hb
      · rw [L2.upd_same, show V.bl true = (fun b => V.bl b) true from rfl, ← List.map_set, mk_set (by omega), List.take_add_one, hn, show ((n.toNat : Nat) : Int) = n by omega]
        rfl
    · subst es
      rw [List.length_map, List.take_length] at hD8
      with_reducible refine Rd.ret (Rd.var (by walk_at "vr") ?_)
      exact k _ _ S8 nD0 hD8
/-! shortest -/
theorem sc_shortest : FnScope ["marks", "period"] ["marks"] (defScope s_shortest) := ⟨rfl, rfl, rfl, by decide +kernel, rfl, by decide +kernel, by decide +kernel⟩
theorem st_shortest {v0 : V} : L2.start ["marks", "period"] [v0] = [some v0, none] := rfl
abbrev sp_shortest (K : PySem.W.Frag) (A : Adr) : Sp := fun vs H Q _ => ∃ (l : Addr) (bs : List Bool), vs = [.ref l] ∧ H l = some (.lst (bs.map V.bl)) ∧ 1 ≤ bs.length ∧ bs.length ≤ 2000 ∧ ∀ (p : Addr) (k : Nat) (H' : Hp), Same H H' → (p = l ∨ H p = none) → 1 ≤ k → k ≤ bs.length → IsP bs k → (∀ j, 1 ≤ j → j < k → ¬ IsP bs j) → H' p = some (.lst ((bs.take k).map V.bl)) → Q (.ref p) H'
theorem ok_shortest (T : Txt w K mg A) : FnOk P w K mg base CX0 1 A.f_shortest A.d_shortest ["marks"] (sp_shortest K A) := by
  refine T.F_shortest.ok sc_shortest (fun vs H Q E h => ?_) (fun cdv Ar outer s H vs Q E hr h => ?_)
  · obtain ⟨l, bs, rfl, hl, b1, b2, k⟩ := h
    rfl
  · obtain ⟨l, bs, rfl, hl, b1, b2, k⟩ := h
    have hu := hu_of hr
    have t_q_PART_NAMES := T.q_PART_NAMES
    have t_q_PART_WORDS_slot := T.q_PART_WORDS_slot
    have t_d_PART_WORDS_slot := T.d_PART_WORDS_slot
    have t_q_PART_WORDS_empty := T.q_PART_WORDS_empty
    have t_d_PART_WORDS_empty := T.d_PART_WORDS_empty
    have t_q_PART_WORDS_when := T.q_PART_WORDS_when
    have t_d_PART_WORDS_when := T.d_PART_WORDS_when
    have t_q_MEASURES := T.q_MEASURES
    have t_q_SIGNS := T.q_SIGNS
    have t_q_PLAIN_FULLS := T.q_PLAIN_FULLS
    have t_i_Form := T.i_Form
    have t_kt_Form_Form := T.kt_Form_Form
    have t_kt_int_Form := T.kt_int_Form
    have t_i_SizeSet := T.i_SizeSet
    have t_kt_SizeSet_SizeSet := T.kt_SizeSet_SizeSet
    have t_kt_tuple_SizeSet := T.kt_tuple_SizeSet
    have t_nf_Form_Form := T.nf_Form_Form
    have t_nf_int_Form := T.nf_int_Form
    have t_nf_SizeSet_SizeSet := T.nf_SizeSet_SizeSet
    have t_nf_tuple_SizeSet := T.nf_tuple_SizeSet
    have t_xm_NoSize_NoSize := T.xm_NoSize_NoSize
    have t_xm_NoRing_NoSize := T.xm_NoRing_NoSize
    have t_xm_NoRing_NoRing := T.xm_NoRing_NoRing
    have t_xm_NotDecided_NoSize := T.xm_NotDecided_NoSize
    have t_xm_NotDecided_NoRing := T.xm_NotDecided_NoRing
    have t_xm_NotDecided_NotDecided := T.xm_NotDecided_NotDecided
    have t_xm_NoLag_NoSize := T.xm_NoLag_NoSize
    have t_xm_NoLag_NoRing := T.xm_NoLag_NoRing
    have t_xm_NoLag_NotDecided := T.xm_NoLag_NotDecided
    have t_xm_NoLag_NoLag := T.xm_NoLag_NoLag
    have t_xm_TooLong_TooLong := T.xm_TooLong_TooLong
    have t_k_Form := T.k_Form
    have t_k_Scheme := T.k_Scheme
    have t_k_Belief := T.k_Belief
    have t_k_SizeSet := T.k_SizeSet
    have bl9 : (bs.map V.bl).length = bs.length := List.length_map _
    refine ⟨_, (pss_cons (ps_for PassesOwn.never rfl (pi_range2 (by rfl) T.n_range (pa_cons pe_int (pa_cons (pe_callB call_len_seq (by rfl) T.n_len PySem.boot_len (pa_cons (pv 0) pa_nil)) pa_nil))) (pg_name (i := 1) sc_shortest.nd rfl (Or.inl rfl)) (pss_one (ps_if (PW.pt (pw_and (pt_cmpR op_eq (pe_op op_mod (pe_callB call_len_seq (by rfl) T.n_len PySem.boot_len (pa_cons (pv 0) pa_nil)) (pv 1)) pe_int (nomark _)) (pw_and1 (pt_cmpR (op_eqD hr.units) (pe_op op_rep (pe_slice sl_list (pv 0) po_none (po_some (pv 1))) (pe_op op_fdivW (pe_callB call_len_seq (by rfl) T.n_len PySem.boot_len (pa_cons (pv 0) pa_nil)) (pv 1))) (pv 0) (nomark _))))) (pss_one (ps_ret (pe_slice sl_list (pv 0) po_none (po_some (pv 1))))) pss_nil)))
      (pss_one (ps_ret (pv 0)))), ?_⟩
    try dsimp only [L2.cxOf, L2.Cx.nox, L2.Cx.wish]
    try rw [st_shortest]
    with_reducible refine Rd.seq (Rd.fr (Rd.rng2 (Rd.cons (Rd.c (Rd.cons (Rd.cB (Rd.cons (Rd.var (by walk_at "vr") (Rd.nil (⟨_, _, rfl, (by walk_at "hpq"), (Rd.nil ?_)⟩))))))))))
    with_reducible refine ⟨_, _, rfl, ⟨(by walk_at "sc"), (by walk_at "sc"), (by walk_at "sc"), (by walk_at "sc")⟩, ?_⟩
    refine for_range (lo := 1) (fun (i : Nat) (σ : L2.St) (H' : Hp) => ∃ v1 : Option V, σ = [some (.ref l), v1] ∧ Same H H' ∧ ∀ j, 1 ≤ j → j < 1 + i → ¬ IsP bs j) ⟨_, rfl, Same.refl _, fun j a b => by omega⟩ (fun i σ H0 hi ⟨v1, es, S8, hno⟩ => ?_) (fun σ H0 ⟨v1, es, S8, hno⟩ => ?_)
    · subst es
      obtain ⟨j, ej⟩ : ∃ j : Nat, (1 : Int) + (i : Int) = (j : Int) := ⟨i + 1, by omega⟩
      rw [ej]
      have hl8 := S8 _ _ hl
      obtain ⟨q0, q1⟩ := rep_q (j := j) b2
      with_reducible refine Rd.name (Rd.ifS (Rd.and (Rd.test (Rd.op (Rd.op (Rd.cB (Rd.cons (Rd.var (by walk_at "vr") (Rd.nil (⟨_, _, rfl, (by walk_at "hpq"), (Rd.var (by walk_at "vr") ?_)⟩))))))))))
      with_reducible refine Rd.iC (by walk_at "sc") (Rd.c (Rd.eqS (by walk_at "vr") (Rd.bl ?_)))
      refine Rd.ite (fun h0 => ?_) (fun h0 => ?_)
      · try simp only [decide_eq_true_eq, Bool.not_eq_true', decide_eq_false_iff_not, Bool.not_eq_true, Bool.not_eq_eq_eq_not, Bool.not_true, Bool.not_false] at h0
        with_reducible refine Rd.test (Rd.op (Rd.op (Rd.sl (Rd.var (by walk_at "vr") (Rd.noPart (Rd.part (Rd.var (by walk_at "vr") (⟨_, rfl, ?_⟩))))))))
        refine ⟨_, _, rfl, (by walk_at "hpl"), fun c1 nc1 => ?_⟩
        rw [Rd.cut_take (by rw [List.length_map]; omega), ← List.map_take]
        with_reducible refine Rd.op (Rd.cB (Rd.cons (Rd.var (by walk_at "vr") (Rd.nil (⟨_, _, rfl, (by walk_at "hpq"), (Rd.var (by walk_at "vr") (Rd.iC (by walk_at "scd") ?_))⟩)))))
        refine ⟨_, _, _, rfl, rfl, (by walk_at "hp"), (by walk_at "sc"), (by walk_at "sc"), (by walk_at "rep"), fun c2 nc2 => ?_⟩
        rw [map_rep]
        with_reducible refine Rd.var (by walk_at "vr") ?_
        refine ⟨_, _, (by walk_at "dp"), (by walk_at "dp"), (by walk_at "shp"), (by walk_at "shp"), ?_⟩
        with_reducible refine Rd.bl ?_
        refine Rd.ite (fun h1 => ?_) (fun h1 => ?_)
        · try simp only [decide_eq_true_eq, Bool.not_eq_true', decide_eq_false_iff_not, Bool.not_eq_true, Bool.not_eq_eq_eq_not, Bool.not_true, Bool.not_false] at h1
          with_reducible refine Rd.ret (Rd.sl (Rd.var (by walk_at "vr") (Rd.noPart (Rd.part (Rd.var (by walk_at "vr") (⟨_, rfl, ?_⟩))))))
          refine ⟨_, _, rfl, (by walk_at "hpl"), fun c3 nc3 => ?_⟩
          rw [Rd.cut_take (by rw [List.length_map]; omega), ← List.map_take]
          exact k _ j _ (by walk_at "frm") (.inr (by walk_at "nn")) (by omega) (by omega) (isP_iff.mpr ⟨h0, h1⟩) (fun i2 a b => hno i2 a (by omega)) L2.upd_same
        · try simp only [decide_eq_true_eq, Bool.not_eq_true', decide_eq_false_iff_not, Bool.not_eq_true, Bool.not_eq_eq_eq_not, Bool.not_true, Bool.not_false, Int.not_lt, Int.not_le, Decidable.not_not] at h1
          with_reducible refine Rd.next ?_
          refine ⟨_, rfl, (by walk_at "frm"), fun i2 a b => ?_⟩
          rcases (by omega : i2 < 1 + i ∨ i2 = j) with q | q
          · exact hno i2 a q
          · subst q
            intro z
            obtain ⟨z1, z2⟩ := isP_iff.mp z
            first | exact h0 z1 | (rw [z2] at h1; cases h1)
      · try simp only [decide_eq_true_eq, Bool.not_eq_true', decide_eq_false_iff_not, Bool.not_eq_true, Bool.not_eq_eq_eq_not, Bool.not_true, Bool.not_false, Int.not_lt, Int.not_le, Decidable.not_not] at h0
        with_reducible refine Rd.iteF rfl (Rd.next ?_)
        refine ⟨_, rfl, (by walk_at "frm"), fun i2 a b => ?_⟩
        rcases (by omega : i2 < 1 + i ∨ i2 = j) with q | q
        · exact hno i2 a q
        · subst q
          intro z
          obtain ⟨z1, z2⟩ := isP_iff.mp z
          first | exact h0 z1 | (rw [z2] at h1; cases h1)
    · subst es
      with_reducible refine Rd.ret (Rd.var (by walk_at "vr") ?_)
      exact k l bs.length H0 S8 (.inl rfl) b1 (Nat.le_refl _) (isP_len b1) (fun i2 a b => hno i2 a (by omega)) (by rw [List.take_length]; exact S8 _ _ hl)
/-! SizeSet.__init__ -/
theorem sc_SizeSetu__initu_ : FnScope ["self", "early", "start", "period", "rests", "rest_marks", "early_marks", "number"] ["self", "early", "start", "period", "rests"] (defScope s_SizeSetu__initu_) := ⟨rfl, rfl, rfl, by decide +kernel, rfl, by decide +kernel, by decide +kernel⟩
theorem st_SizeSetu__initu_ {v0 v1 v2 v3 v4 : V} : L2.start ["self", "early", "start", "period", "rests", "rest_marks", "early_marks", "number"] [v0, v1, v2, v3, v4] = [some v0, some v1, some v2, some v3, some v4, none, none, none] := rfl
abbrev sp_SizeSetu__initu_ (K : PySem.W.Frag) (A : Adr) : Sp := fun vs H Q _ => ∃ (p dx le lr : Addr) (w : Rows), vs = [.ref p, .ref le, .int w.s, .int w.p, .ref lr] ∧ H p = some (.ins A.c_SizeSet dx []) ∧ H le = some (.lst (w.E.map V.int)) ∧ H lr = some (.lst (w.R.map V.int)) ∧ w.Ok ∧ w.s ≤ 2000 ∧ w.p ≤ 2000 ∧ ∀ (t : Rows) (H' : Hp), Frm p H H' → Canon w t → SetNew A H H' p w t → Q .non H'
theorem ok_SizeSetu__initu_ (T : Txt w K mg A) : FnOk P w K mg base CX0 5 A.f_SizeSetu__initu_ A.d_SizeSetu__initu_ ["self", "early", "start", "period", "rests"] (sp_SizeSetu__initu_ K A) := by
  refine T.F_SizeSetu__initu_.ok sc_SizeSetu__initu_ (fun vs H Q E h => ?_) (fun cdv Ar outer s H vs Q E hr h => ?_)
  · obtain ⟨p, dx, le, lr, w, rfl, hp, hE, hR, ok, sb2, pb, k⟩ := h
    rfl
  · obtain ⟨p, dx, le, lr, w, rfl, hp, hE, hR, ok, sb2, pb, k⟩ := h
    have hu := hu_of hr
    have t_q_PART_NAMES := T.q_PART_NAMES
    have t_q_PART_WORDS_slot := T.q_PART_WORDS_slot
    have t_d_PART_WORDS_slot := T.d_PART_WORDS_slot
    have t_q_PART_WORDS_empty := T.q_PART_WORDS_empty
    have t_d_PART_WORDS_empty := T.d_PART_WORDS_empty
    have t_q_PART_WORDS_when := T.q_PART_WORDS_when
    have t_d_PART_WORDS_when := T.d_PART_WORDS_when
    have t_q_MEASURES := T.q_MEASURES
    have t_q_SIGNS := T.q_SIGNS
    have t_q_PLAIN_FULLS := T.q_PLAIN_FULLS
    have t_i_Form := T.i_Form
    have t_kt_Form_Form := T.kt_Form_Form
    have t_kt_int_Form := T.kt_int_Form
    have t_i_SizeSet := T.i_SizeSet
    have t_kt_SizeSet_SizeSet := T.kt_SizeSet_SizeSet
    have t_kt_tuple_SizeSet := T.kt_tuple_SizeSet
    have t_nf_Form_Form := T.nf_Form_Form
    have t_nf_int_Form := T.nf_int_Form
    have t_nf_SizeSet_SizeSet := T.nf_SizeSet_SizeSet
    have t_nf_tuple_SizeSet := T.nf_tuple_SizeSet
    have t_xm_NoSize_NoSize := T.xm_NoSize_NoSize
    have t_xm_NoRing_NoSize := T.xm_NoRing_NoSize
    have t_xm_NoRing_NoRing := T.xm_NoRing_NoRing
    have t_xm_NotDecided_NoSize := T.xm_NotDecided_NoSize
    have t_xm_NotDecided_NoRing := T.xm_NotDecided_NoRing
    have t_xm_NotDecided_NotDecided := T.xm_NotDecided_NotDecided
    have t_xm_NoLag_NoSize := T.xm_NoLag_NoSize
    have t_xm_NoLag_NoRing := T.xm_NoLag_NoRing
    have t_xm_NoLag_NotDecided := T.xm_NoLag_NotDecided
    have t_xm_NoLag_NoLag := T.xm_NoLag_NoLag
    have t_xm_TooLong_TooLong := T.xm_TooLong_TooLong
    have t_k_Form := T.k_Form
    have t_k_Scheme := T.k_Scheme
    have t_k_Belief := T.k_Belief
    have t_k_SizeSet := T.k_SizeSet
    have s1 := ok.s1
    have p1 := ok.p1
    have aE := ok.hE
    have aR := ok.hR
    have lE := asc_200 aE (by omega)
    have lR := asc_200 aR (by omega)
    have nle : le ≠ p := L2.ne_of hE hp (by intro z; cases z)
    have nlr : lr ≠ p := L2.ne_of hR hp (by intro z; cases z)
    refine ⟨_, (pss_cons (ps_expr (pe_call (ok_check_parts T) (hr.mono (by decide)) (by rfl) T.m_check_parts T.F_check_parts.kp T.b_check_parts .nil pass0 (pa_cons (pv 1) (pa_cons (pv 2) (pa_cons (pv 3) (pa_cons (pv 4) pa_nil))))))
      (pss_cons (ps_set (i := 5) sc_SizeSetu__initu_.nd rfl (Or.inl rfl) (pe_call (ok_shortest T) (hr.mono (by decide)) (by rfl) T.m_shortest T.F_shortest.kp T.b_shortest .nil pass0 (pa_cons (pe_call (ok_marks_of T) (hr.mono (by decide)) (by rfl) T.m_marks_of T.F_marks_of.kp T.b_marks_of .nil pass0 (pa_cons (pv 4) (pa_cons (pv 3) pa_nil))) pa_nil)))
      (pss_cons (ps_set (i := 6) sc_SizeSetu__initu_.nd rfl (Or.inl rfl) (pe_call (ok_marks_of T) (hr.mono (by decide)) (by rfl) T.m_marks_of T.F_marks_of.kp T.b_marks_of .nil pass0 (pa_cons (pv 1) (pa_cons (pv 2) pa_nil))))
      (pss_cons (ps_fld (pv 0) (pe_callB call_len_seq (by rfl) T.n_len PySem.boot_len (pa_cons (pv 5) pa_nil)) rfl)
      (pss_cons (ps_fld (pv 0) (pe_call (ok_least_start T) (hr.mono (by decide)) (by rfl) T.m_least_start T.F_least_start.kp T.b_least_start .nil pass0 (pa_cons (pv 6) (pa_cons (pv 5) pa_nil))) rfl)
      (pss_cons (ps_fld (pv 0) (by exact (pe_lc (own := [("number", 7)]) (g := gName 7) rfl sc_SizeSetu__initu_.nd (pi_list (pv 1)) (blkOk_by (own := [("number", 7)]) (N := ["self", "early", "start", "period", "rests", "rest_marks", "early_marks", "number"]) (sc := defScope s_SizeSetu__initu_) (by decide +kernel)) (fun _ _ _ _ _ => (pg_name (i := 7) sc_SizeSetu__initu_.nd rfl (Or.inl rfl))) (fun _ _ _ _ _ => pts_one (pt_cmpR op_lt (pv 7) (Rd.pe_fldK (K := K) rfl (pv 0) rfl) (nomark _))) (fun _ _ _ _ _ => (pv 7)))) rfl)
      (pss_cons (ps_fld (pv 0) (by exact (pe_lc (own := [("number", 7)]) (g := gName 7) rfl sc_SizeSetu__initu_.nd (pi_list (pv 4)) (blkOk_by (own := [("number", 7)]) (N := ["self", "early", "start", "period", "rests", "rest_marks", "early_marks", "number"]) (sc := defScope s_SizeSetu__initu_) (by decide +kernel)) (fun _ _ _ _ _ => (pg_name (i := 7) sc_SizeSetu__initu_.nd rfl (Or.inl rfl))) (fun _ _ _ _ _ => pts_one (pt_cmpR op_lt (pv 7) (Rd.pe_fldK (K := K) rfl (pv 0) rfl) (nomark _))) (fun _ _ _ _ _ => (pv 7)))) rfl)
      (pss_cons (ps_fld (pv 0) (pv 6) rfl)
      (pss_one (ps_fld (pv 0) (pv 5) rfl)))))))))), ?_⟩
    try dsimp only [L2.cxOf, L2.Cx.nox, L2.Cx.wish]
    try rw [st_SizeSetu__initu_]
    with_reducible refine Rd.seq (Rd.drop (Rd.call (Rd.cons (Rd.var (by walk_at "vr") (Rd.cons (Rd.var (by walk_at "vr") (Rd.cons (Rd.var (by walk_at "vr") (Rd.cons (Rd.var (by walk_at "vr") (Rd.nil ?_)))))))))))
    refine ⟨_, _, _, rfl, (by walk_at "hp"), (by walk_at "hp"), (by assumption), (by omega), (by omega), ?_⟩
    with_reducible refine Rd.seq (Rd.asg (Rd.call (Rd.cons (Rd.call (Rd.cons (Rd.var (by walk_at "vr") (Rd.cons (Rd.var (by walk_at "vr") (Rd.nil ?_)))))))))
    refine ⟨_, _, _, rfl, (by walk_at "hpl"), (fun x hx => by have := aR.mem x hx; omega), (by omega), (by omega), fun b1 H1 S1 nb1 hb1 => ?_⟩
    with_reducible refine Rd.nil ?_
    refine ⟨_, _, rfl, (by walk_at "hp"), (by rw [mk_len]; omega), (by rw [mk_len]; omega), fun rm kk H2 S2 kn ka kb kc kd hrm => ?_⟩
    have rl9 : (((mk w.R w.p.toNat).take kk).map V.bl).length = kk := by rw [List.length_map, List.length_take]; omega
    with_reducible refine Rd.name ?_
    try dsimp only [Int.reduceToNat, List.set]
    with_reducible refine Rd.seq (Rd.asg (Rd.call (Rd.cons (Rd.var (by walk_at "vr") (Rd.cons (Rd.var (by walk_at "vr") (Rd.nil ?_)))))))
    refine ⟨_, _, _, rfl, (by walk_at "hpl"), (fun x hx => by have := aE.mem x hx; omega), (by omega), (by omega), fun em H3 S3 nem hem => ?_⟩
    with_reducible refine Rd.name ?_
    try dsimp only [Int.reduceToNat, List.set]
    with_reducible refine Rd.seq (Rd.sfld (Rd.cB (Rd.cons (Rd.var (by walk_at "vr") (Rd.nil (⟨_, _, rfl, (by walk_at "hpq"), (Rd.var (by walk_at "vr") (⟨_, _, _, _, rfl, (by walk_at "hp"), T.k_SizeSet, T.n_SizeSet_period, (by walk_at "sfl"), ?_⟩))⟩))))))
    rw [rl9]
    with_reducible refine Rd.seq (Rd.sfld (Rd.call (Rd.cons (Rd.var (by walk_at "vr") (Rd.cons (Rd.var (by walk_at "vr") (Rd.nil ?_)))))))
    refine ⟨_, _, _, _, rfl, (by walk_at "hpl"), (by walk_at "hpl"), (by rw [mk_len]; omega), (by rw [mk_len]; omega), (by rw [List.length_take]; omega), (by rw [List.length_take]; rw [mk_len] at kb; rw [mk_len]; omega), fun st sa sb sc sd => ?_⟩
    with_reducible refine Rd.var (by walk_at "vr") (⟨_, _, _, _, rfl, (by walk_at "hp"), T.k_SizeSet, T.n_SizeSet_start, (by walk_at "sfl"), ?_⟩)
    rw [L2.upd_upd, fZ2_put]
    refine Rd.comp (fun Hx => Frm p H Hx ∧ Hx p = some (.ins A.c_SizeSet dx (fZ2 kk st)) ∧ Hx le = some (.lst (w.E.map V.int)) ∧ Hx lr = some (.lst (w.R.map V.int)) ∧ Hx rm = some (.lst (((mk w.R w.p.toNat).take kk).map V.bl)) ∧ Hx em = some (.lst ((mk w.E w.s.toNat).map V.bl))) ⟨by walk_at "frm", L2.upd_same, (by walk_at "hp"), (by walk_at "hp"), (by walk_at "hp"), (by walk_at "hp")⟩ (fun Ha ⟨Fa, pa, la, lb, ra, ea⟩ => ?_)
    have can := canon_of ok ka kb kc kd sa sb sc sd
    with_reducible refine Rd.seq (Rd.sfld (Rd.lc (Rd.il (Rd.var (by walk_at "vr") ?_))))
    refine ⟨_, rfl, ⟨_, (by walk_at "hpl")⟩, ?_⟩
    intro D0 nD0
    refine' lc_list (fun i H' => Same Ha H' ∧ H' D0 = some (.lst (((w.E.take i).filter (fun x => decide (x < st))).map V.int))) (⟨by walk_at "frm", L2.upd_same⟩) (fun i H' _ p => .of (p.1 _ _ la)) (fun i x H' hx p => ?lct0_u6) (fun H' p => ?lcd0_u6)
    case lct0_u6 =>
      obtain ⟨S9, hD⟩ := p
      rw [List.getElem?_map] at hx
      obtain ⟨n, hn, rfl⟩ := Option.map_eq_some_iff.mp hx
      have al9 : (((w.E.take i).filter (fun x => decide (x < st))).map V.int).length ≤ 2900 := by
        rw [List.length_map]
        have q1 := List.length_filter_le (fun x => decide (x < st)) (w.E.take i)
        have q2 := List.length_take_le' i w.E
        omega
      with_reducible refine Rd.name ?_
      refine ⟨rfl, ?_⟩
      with_reducible refine Rd.test (Rd.op (Rd.var (by walk_at "vr") (Rd.fld (Rd.var (by walk_at "vr") (⟨_, _, _, _, _, rfl, (by walk_at "hp"), T.k_SizeSet, T.n_SizeSet_start, (by walk_at "lk"), (Rd.i0 (Rd.bl ?_))⟩)))))
      refine Rd.ite (fun h0 => ?_) (fun h0 => ?_)
      · try simp only [decide_eq_true_eq, Bool.not_eq_true', decide_eq_false_iff_not, Bool.not_eq_true, Bool.not_eq_eq_eq_not, Bool.not_true, Bool.not_false] at h0
        with_reducible refine Rd.var (by walk_at "vr") ?_
        refine ⟨_, (by walk_at "hp"), (by walk_at "sz"), ?_⟩
        refine ⟨by walk_at "frm", ?_⟩
        rw [filt_yes hn (by omega)]
        exact L2.upd_same
      · try simp only [decide_eq_true_eq, Bool.not_eq_true', decide_eq_false_iff_not, Bool.not_eq_true, Bool.not_eq_eq_eq_not, Bool.not_true, Bool.not_false, Int.not_lt, Int.not_le, Decidable.not_not] at h0
        exact ⟨S9, by rw [← filt_no hn (by omega)]; exact hD⟩
    obtain ⟨S5, hD5⟩ := p
    rw [List.length_map, List.take_length] at hD5
    with_reducible refine Rd.var (by walk_at "vr") (⟨_, _, _, _, rfl, (by walk_at "hp"), T.k_SizeSet, T.n_SizeSet_early, (by walk_at "sfl"), ?_⟩)
    rw [fZ3_put]
    refine Rd.comp (fun Hx => Frm p H Hx ∧ Hx p = some (.ins A.c_SizeSet dx (fZ3 kk st D0)) ∧ Hx lr = some (.lst (w.R.map V.int)) ∧ Hx rm = some (.lst (((mk w.R w.p.toNat).take kk).map V.bl)) ∧ Hx em = some (.lst ((mk w.E w.s.toNat).map V.bl)) ∧ Hx D0 = some (.lst ((w.E.filter (fun x => decide (x < st))).map V.int))) ⟨by walk_at "frm", L2.upd_same, (by walk_at "hp"), (by walk_at "hp"), (by walk_at "hp"), (by walk_at "hp")⟩ (fun Hb ⟨Fb, pb2, lb2, rb2, eb2, db2⟩ => ?_)
    with_reducible refine Rd.seq (Rd.sfld (Rd.lc (Rd.il (Rd.var (by walk_at "vr") ?_))))
    refine ⟨_, rfl, ⟨_, (by walk_at "hpl")⟩, ?_⟩
    intro D1 nD1
    refine' lc_list (fun i H' => Same Hb H' ∧ H' D1 = some (.lst (((w.R.take i).filter (fun x => decide (x < (kk : Int)))).map V.int))) (⟨by walk_at "frm", L2.upd_same⟩) (fun i H' _ p => .of (p.1 _ _ lb2)) (fun i x H' hx p => ?lct1_u7) (fun H' p => ?lcd1_u7)
    case lct1_u7 =>
      obtain ⟨S9, hD⟩ := p
      rw [List.getElem?_map] at hx
      obtain ⟨n, hn, rfl⟩ := Option.map_eq_some_iff.mp hx
      have al9 : (((w.R.take i).filter (fun x => decide (x < (kk : Int)))).map V.int).length ≤ 2900 := by
        rw [List.length_map]
        have q1 := List.length_filter_le (fun x => decide (x < (kk : Int))) (w.R.take i)
        have q2 := List.length_take_le' i w.R
        omega
      with_reducible refine Rd.name ?_
      refine ⟨rfl, ?_⟩
      with_reducible refine Rd.test (Rd.op (Rd.var (by walk_at "vr") (Rd.fld (Rd.var (by walk_at "vr") (⟨_, _, _, _, _, rfl, (by walk_at "hp"), T.k_SizeSet, T.n_SizeSet_period, (by walk_at "lk"), (Rd.i0 (Rd.bl ?_))⟩)))))
      refine Rd.ite (fun h1 => ?_) (fun h1 => ?_)
      · try simp only [decide_eq_true_eq, Bool.not_eq_true', decide_eq_false_iff_not, Bool.not_eq_true, Bool.not_eq_eq_eq_not, Bool.not_true, Bool.not_false] at h1
        with_reducible refine Rd.var (by walk_at "vr") ?_
        refine ⟨_, (by walk_at "hp"), (by walk_at "sz"), ?_⟩
        refine ⟨by walk_at "frm", ?_⟩
        rw [filt_yes hn (by omega)]
        exact L2.upd_same
      · try simp only [decide_eq_true_eq, Bool.not_eq_true', decide_eq_false_iff_not, Bool.not_eq_true, Bool.not_eq_eq_eq_not, Bool.not_true, Bool.not_false, Int.not_lt, Int.not_le, Decidable.not_not] at h1
        exact ⟨S9, by rw [← filt_no hn (by omega)]; exact hD⟩
    obtain ⟨S6, hD6⟩ := p
    rw [List.length_map, List.take_length] at hD6
    with_reducible refine Rd.var (by walk_at "vr") (⟨_, _, _, _, rfl, (by walk_at "hp"), T.k_SizeSet, T.n_SizeSet_rests, (by walk_at "sfl"), (Rd.seq (Rd.sfld (Rd.var (by walk_at "vr") (Rd.var (by walk_at "vr") (⟨_, _, _, _, rfl, (by walk_at "hp"), T.k_SizeSet, T.n_SizeSet_early_marks, (by walk_at "sfl"), (Rd.sfld (Rd.var (by walk_at "vr") (Rd.var (by walk_at "vr") (⟨_, _, _, _, rfl, (by walk_at "hp"), T.k_SizeSet, T.n_SizeSet_rest_marks, (by walk_at "sfl"), ?_⟩))))⟩)))))⟩)
    (repeat rw [L2.upd_upd])
    rw [fZ_put]
    have nrm : H rm = none := by
      rcases kn with e | kn
      · rw [e]; exact nb1
      · exact L2.Same.free S1 kn
    have nemH : H em = none := L2.Same.free S1 (L2.Same.free S2 nem)
    exact k _ _ (by walk_at "frm") can (set_new (dx := dx) (ea := D0) (re := D1) (em := em) (rm := rm) L2.upd_same (by walk_at "hp") (by walk_at "hp") (by walk_at "hp") (by show _ = some (L2.HO.lst (((mk w.R w.p.toNat).take ((kk : Int)).toNat).map V.bl)); rw [Int.toNat_natCast]; walk_at "hp") (fun a o ha na => ⟨ne_none' nD0 (Fa _ _ ha na), ne_none' nD1 (Fb _ _ ha na), ne_none' nemH ha, ne_none' nrm ha⟩))
/-! SizeSet.start -/
theorem sc_SizeSet_start : FnScope ["self"] ["self"] (defScope s_SizeSet_start) := ⟨rfl, rfl, rfl, by decide +kernel, rfl, by decide +kernel, by decide +kernel⟩
abbrev sp_SizeSet_start (K : PySem.W.Frag) (A : Adr) : Sp := fun vs H Q _ => ∃ (p : Addr) (w t : Rows), vs = [.ref p] ∧ IsSet A H p w t ∧ Q (.int t.s) H
theorem ok_SizeSet_start (T : Txt w K mg A) : FnOk P w K mg base CX0 1 A.f_SizeSet_start A.d_SizeSet_start ["self"] (sp_SizeSet_start K A) := by
  refine T.F_SizeSet_start.ok sc_SizeSet_start (fun vs H Q E h => ?_) (fun cdv Ar outer s H vs Q E hr h => ?_)
  · obtain ⟨p, w, t, rfl, ⟨dx, ea, re, em, rm, hp, hea, hre, hem, hrm⟩, k⟩ := h
    rfl
  · obtain ⟨p, w, t, rfl, ⟨dx, ea, re, em, rm, hp, hea, hre, hem, hrm⟩, k⟩ := h
    have hu := hu_of hr
    have t_q_PART_NAMES := T.q_PART_NAMES
    have t_q_PART_WORDS_slot := T.q_PART_WORDS_slot
    have t_d_PART_WORDS_slot := T.d_PART_WORDS_slot
    have t_q_PART_WORDS_empty := T.q_PART_WORDS_empty
    have t_d_PART_WORDS_empty := T.d_PART_WORDS_empty
    have t_q_PART_WORDS_when := T.q_PART_WORDS_when
    have t_d_PART_WORDS_when := T.d_PART_WORDS_when
    have t_q_MEASURES := T.q_MEASURES
    have t_q_SIGNS := T.q_SIGNS
    have t_q_PLAIN_FULLS := T.q_PLAIN_FULLS
    have t_i_Form := T.i_Form
    have t_kt_Form_Form := T.kt_Form_Form
    have t_kt_int_Form := T.kt_int_Form
    have t_i_SizeSet := T.i_SizeSet
    have t_kt_SizeSet_SizeSet := T.kt_SizeSet_SizeSet
    have t_kt_tuple_SizeSet := T.kt_tuple_SizeSet
    have t_nf_Form_Form := T.nf_Form_Form
    have t_nf_int_Form := T.nf_int_Form
    have t_nf_SizeSet_SizeSet := T.nf_SizeSet_SizeSet
    have t_nf_tuple_SizeSet := T.nf_tuple_SizeSet
    have t_xm_NoSize_NoSize := T.xm_NoSize_NoSize
    have t_xm_NoRing_NoSize := T.xm_NoRing_NoSize
    have t_xm_NoRing_NoRing := T.xm_NoRing_NoRing
    have t_xm_NotDecided_NoSize := T.xm_NotDecided_NoSize
    have t_xm_NotDecided_NoRing := T.xm_NotDecided_NoRing
    have t_xm_NotDecided_NotDecided := T.xm_NotDecided_NotDecided
    have t_xm_NoLag_NoSize := T.xm_NoLag_NoSize
    have t_xm_NoLag_NoRing := T.xm_NoLag_NoRing
    have t_xm_NoLag_NotDecided := T.xm_NoLag_NotDecided
    have t_xm_NoLag_NoLag := T.xm_NoLag_NoLag
    have t_xm_TooLong_TooLong := T.xm_TooLong_TooLong
    have t_k_Form := T.k_Form
    have t_k_Scheme := T.k_Scheme
    have t_k_Belief := T.k_Belief
    have t_k_SizeSet := T.k_SizeSet
    refine ⟨_, (pss_one (ps_ret (pe_fld (pv 0) rfl))), ?_⟩
    try dsimp only [L2.cxOf, L2.Cx.nox, L2.Cx.wish]
    with_reducible refine Rd.ret (Rd.fld (Rd.var (by walk_at "vr") (⟨_, _, _, _, _, rfl, (by walk_at "hp"), T.k_SizeSet, T.n_SizeSet_start, (by walk_at "lk"), ?_⟩)))
    exact k
/-! SizeSet.period -/
theorem sc_SizeSet_period : FnScope ["self"] ["self"] (defScope s_SizeSet_period) := ⟨rfl, rfl, rfl, by decide +kernel, rfl, by decide +kernel, by decide +kernel⟩
abbrev sp_SizeSet_period (K : PySem.W.Frag) (A : Adr) : Sp := fun vs H Q _ => ∃ (p : Addr) (w t : Rows), vs = [.ref p] ∧ IsSet A H p w t ∧ Q (.int t.p) H
theorem ok_SizeSet_period (T : Txt w K mg A) : FnOk P w K mg base CX0 1 A.f_SizeSet_period A.d_SizeSet_period ["self"] (sp_SizeSet_period K A) := by
  refine T.F_SizeSet_period.ok sc_SizeSet_period (fun vs H Q E h => ?_) (fun cdv Ar outer s H vs Q E hr h => ?_)
  · obtain ⟨p, w, t, rfl, ⟨dx, ea, re, em, rm, hp, hea, hre, hem, hrm⟩, k⟩ := h
    rfl
  · obtain ⟨p, w, t, rfl, ⟨dx, ea, re, em, rm, hp, hea, hre, hem, hrm⟩, k⟩ := h
    have hu := hu_of hr
    have t_q_PART_NAMES := T.q_PART_NAMES
    have t_q_PART_WORDS_slot := T.q_PART_WORDS_slot
    have t_d_PART_WORDS_slot := T.d_PART_WORDS_slot
    have t_q_PART_WORDS_empty := T.q_PART_WORDS_empty
    have t_d_PART_WORDS_empty := T.d_PART_WORDS_empty
    have t_q_PART_WORDS_when := T.q_PART_WORDS_when
    have t_d_PART_WORDS_when := T.d_PART_WORDS_when
    have t_q_MEASURES := T.q_MEASURES
    have t_q_SIGNS := T.q_SIGNS
    have t_q_PLAIN_FULLS := T.q_PLAIN_FULLS
    have t_i_Form := T.i_Form
    have t_kt_Form_Form := T.kt_Form_Form
    have t_kt_int_Form := T.kt_int_Form
    have t_i_SizeSet := T.i_SizeSet
    have t_kt_SizeSet_SizeSet := T.kt_SizeSet_SizeSet
    have t_kt_tuple_SizeSet := T.kt_tuple_SizeSet
    have t_nf_Form_Form := T.nf_Form_Form
    have t_nf_int_Form := T.nf_int_Form
    have t_nf_SizeSet_SizeSet := T.nf_SizeSet_SizeSet
    have t_nf_tuple_SizeSet := T.nf_tuple_SizeSet
    have t_xm_NoSize_NoSize := T.xm_NoSize_NoSize
    have t_xm_NoRing_NoSize := T.xm_NoRing_NoSize
    have t_xm_NoRing_NoRing := T.xm_NoRing_NoRing
    have t_xm_NotDecided_NoSize := T.xm_NotDecided_NoSize
    have t_xm_NotDecided_NoRing := T.xm_NotDecided_NoRing
    have t_xm_NotDecided_NotDecided := T.xm_NotDecided_NotDecided
    have t_xm_NoLag_NoSize := T.xm_NoLag_NoSize
    have t_xm_NoLag_NoRing := T.xm_NoLag_NoRing
    have t_xm_NoLag_NotDecided := T.xm_NoLag_NotDecided
    have t_xm_NoLag_NoLag := T.xm_NoLag_NoLag
    have t_xm_TooLong_TooLong := T.xm_TooLong_TooLong
    have t_k_Form := T.k_Form
    have t_k_Scheme := T.k_Scheme
    have t_k_Belief := T.k_Belief
    have t_k_SizeSet := T.k_SizeSet
    refine ⟨_, (pss_one (ps_ret (pe_fld (pv 0) rfl))), ?_⟩
    try dsimp only [L2.cxOf, L2.Cx.nox, L2.Cx.wish]
    with_reducible refine Rd.ret (Rd.fld (Rd.var (by walk_at "vr") (⟨_, _, _, _, _, rfl, (by walk_at "hp"), T.k_SizeSet, T.n_SizeSet_period, (by walk_at "lk"), ?_⟩)))
    exact k
/-! SizeSet.__contains__ -/
theorem sc_SizeSetu__containsu_ : FnScope ["self", "x"] ["self", "x"] (defScope s_SizeSetu__containsu_) := ⟨rfl, rfl, rfl, by decide +kernel, rfl, by decide +kernel, by decide +kernel⟩
theorem st_SizeSetu__containsu_ {v0 v1 : V} : L2.start ["self", "x"] [v0, v1] = [some v0, some v1] := rfl
abbrev sp_SizeSetu__containsu_ (K : PySem.W.Frag) (A : Adr) : Sp := fun vs H Q _ => ∃ (p : Addr) (w t : Rows) (y : V), vs = [.ref p, y] ∧ IsSet A H p w t ∧ Canon w t ∧ w.Ok ∧ ((∃ n : Int, y = .int n ∧ Q (.bl (decide (1 ≤ n) && w.has n)) H) ∨ (Odd K H y ∧ Q (.bl false) H))
theorem ok_SizeSetu__containsu_ (T : Txt w K mg A) : FnOk P w K mg base CX0 2 A.f_SizeSetu__containsu_ A.d_SizeSetu__containsu_ ["self", "x"] (sp_SizeSetu__containsu_ K A) := by
  refine T.F_SizeSetu__containsu_.ok sc_SizeSetu__containsu_ (fun vs H Q E h => ?_) (fun cdv Ar outer s H vs Q E hr h => ?_)
  · obtain ⟨p, w, t, y, rfl, ⟨dx, ea, re, em, rm, hp, hea, hre, hem, hrm⟩, can, ok, hy⟩ := h
    rfl
  · obtain ⟨p, w, t, y, rfl, ⟨dx, ea, re, em, rm, hp, hea, hre, hem, hrm⟩, can, ok, hy⟩ := h
    have hu := hu_of hr
    have t_q_PART_NAMES := T.q_PART_NAMES
    have t_q_PART_WORDS_slot := T.q_PART_WORDS_slot
    have t_d_PART_WORDS_slot := T.d_PART_WORDS_slot
    have t_q_PART_WORDS_empty := T.q_PART_WORDS_empty
    have t_d_PART_WORDS_empty := T.d_PART_WORDS_empty
    have t_q_PART_WORDS_when := T.q_PART_WORDS_when
    have t_d_PART_WORDS_when := T.d_PART_WORDS_when
    have t_q_MEASURES := T.q_MEASURES
    have t_q_SIGNS := T.q_SIGNS
    have t_q_PLAIN_FULLS := T.q_PLAIN_FULLS
    have t_i_Form := T.i_Form
    have t_kt_Form_Form := T.kt_Form_Form
    have t_kt_int_Form := T.kt_int_Form
    have t_i_SizeSet := T.i_SizeSet
    have t_kt_SizeSet_SizeSet := T.kt_SizeSet_SizeSet
    have t_kt_tuple_SizeSet := T.kt_tuple_SizeSet
    have t_nf_Form_Form := T.nf_Form_Form
    have t_nf_int_Form := T.nf_int_Form
    have t_nf_SizeSet_SizeSet := T.nf_SizeSet_SizeSet
    have t_nf_tuple_SizeSet := T.nf_tuple_SizeSet
    have t_xm_NoSize_NoSize := T.xm_NoSize_NoSize
    have t_xm_NoRing_NoSize := T.xm_NoRing_NoSize
    have t_xm_NoRing_NoRing := T.xm_NoRing_NoRing
    have t_xm_NotDecided_NoSize := T.xm_NotDecided_NoSize
    have t_xm_NotDecided_NoRing := T.xm_NotDecided_NoRing
    have t_xm_NotDecided_NotDecided := T.xm_NotDecided_NotDecided
    have t_xm_NoLag_NoSize := T.xm_NoLag_NoSize
    have t_xm_NoLag_NoRing := T.xm_NoLag_NoRing
    have t_xm_NoLag_NotDecided := T.xm_NoLag_NotDecided
    have t_xm_NoLag_NoLag := T.xm_NoLag_NoLag
    have t_xm_TooLong_TooLong := T.xm_TooLong_TooLong
    have t_k_Form := T.k_Form
    have t_k_Scheme := T.k_Scheme
    have t_k_Belief := T.k_Belief
    have t_k_SizeSet := T.k_SizeSet
    have k1 := can.k.pos
    rcases hy with ⟨n, rfl, k⟩ | ⟨hy, k⟩
    rcases (by omega : n < 1 ∨ (1 ≤ n ∧ n < t.s) ∨ (1 ≤ n ∧ t.s ≤ n)) with h1 | ⟨h1, h2⟩ | ⟨h1, h2⟩
    · skip
      refine ⟨_, (pss_cons (ps_if (PW.pt (pw_or (pt_not (pt_val (pe_call (ok_is_whole T) (hr.mono (by decide)) (by rfl) T.m_is_whole T.F_is_whole.kp T.b_is_whole .nil pass0 (pa_cons (pv 1) pa_nil)))) (pw_or1 (pt_cmpR op_lt (pv 1) pe_int (nomark _))))) (pss_one (ps_ret pe_bl)) pss_nil)
      (pss_cons ps_never (pss_one ps_never))), ?_⟩
      try dsimp only [L2.cxOf, L2.Cx.nox, L2.Cx.wish]
      try rw [st_SizeSetu__containsu_]
      with_reducible refine Rd.seq (Rd.ifS (Rd.or (Rd.not (Rd.tb (Rd.call (Rd.cons (Rd.var (by walk_at "vr") (Rd.nil ?_))))))))
      refine ⟨_, rfl, .inl ⟨_, rfl, ?_⟩⟩
      with_reducible refine Rd.bl (Rd.iteF (by walk_at "bF") (Rd.test (Rd.op (Rd.var (by walk_at "vr") (Rd.c (Rd.i0 (Rd.bl (Rd.iteT (by walk_at "bT") (Rd.ret (Rd.c ?_))))))))))
      rw [decide_eq_false (show ¬ 1 ≤ n by omega), Bool.false_and] at k
      exact k
    · skip
      refine ⟨_, (pss_cons (ps_if (PW.pt (pw_or (pt_not (pt_val (pe_call (ok_is_whole T) (hr.mono (by decide)) (by rfl) T.m_is_whole T.F_is_whole.kp T.b_is_whole .nil pass0 (pa_cons (pv 1) pa_nil)))) (pw_or1 (pt_cmpR op_lt (pv 1) pe_int (nomark _))))) (pss_one ps_never) pss_nil)
      (pss_cons (ps_if (pt_cmpR op_lt (pv 1) (pe_fld (pv 0) rfl) (nomark _)) (pss_one (ps_ret (pe_ix (Rd.ixLK rfl) (pe_fld (pv 0) rfl) (pv 1) (fun _ _ => rfl)))) pss_nil)
      (pss_one ps_never))), ?_⟩
      try dsimp only [L2.cxOf, L2.Cx.nox, L2.Cx.wish]
      try rw [st_SizeSetu__containsu_]
      with_reducible refine Rd.seq (Rd.ifS (Rd.or (Rd.not (Rd.tb (Rd.call (Rd.cons (Rd.var (by walk_at "vr") (Rd.nil ?_))))))))
      refine ⟨_, rfl, .inl ⟨_, rfl, ?_⟩⟩
      with_reducible refine Rd.bl (Rd.iteF (by walk_at "bF") (Rd.test (Rd.op (Rd.var (by walk_at "vr") (Rd.c (Rd.i0 (Rd.bl (Rd.iteF (by walk_at "bF") (Rd.next (Rd.seq (Rd.ifS ?_)))))))))))
      with_reducible refine Rd.test (Rd.op (Rd.var (by walk_at "vr") (Rd.fld (Rd.var (by walk_at "vr") (⟨_, _, _, _, _, rfl, (by walk_at "hp"), T.k_SizeSet, T.n_SizeSet_start, (by walk_at "lk"), (Rd.i0 (Rd.bl (Rd.iteT (by walk_at "bT") (Rd.ret (Rd.op (Rd.fld ?_))))))⟩)))))
      with_reducible refine Rd.var (by walk_at "vr") (⟨_, _, _, _, _, rfl, (by walk_at "hp"), T.k_SizeSet, T.n_SizeSet_early_marks, (by walk_at "lk"), (Rd.var (by walk_at "vr") ?_)⟩)
      refine Rd.ixL (by walk_at "hpl") (at_early can h1 h2) ?_
      rw [decide_eq_true h1, Bool.true_and] at k
      exact k
    · skip
      refine ⟨_, (pss_cons (ps_if (PW.pt (pw_or (pt_not (pt_val (pe_call (ok_is_whole T) (hr.mono (by decide)) (by rfl) T.m_is_whole T.F_is_whole.kp T.b_is_whole .nil pass0 (pa_cons (pv 1) pa_nil)))) (pw_or1 (pt_cmpR op_lt (pv 1) pe_int (nomark _))))) (pss_one ps_never) pss_nil)
      (pss_cons (ps_if (pt_cmpR op_lt (pv 1) (pe_fld (pv 0) rfl) (nomark _)) (pss_one ps_never) pss_nil)
      (pss_one (ps_ret (pe_ix (Rd.ixLK rfl) (pe_fld (pv 0) rfl) (pe_op op_mod (pv 1) (pe_fld (pv 0) rfl)) (fun _ _ => rfl)))))), ?_⟩
      try dsimp only [L2.cxOf, L2.Cx.nox, L2.Cx.wish]
      try rw [st_SizeSetu__containsu_]
      with_reducible refine Rd.seq (Rd.ifS (Rd.or (Rd.not (Rd.tb (Rd.call (Rd.cons (Rd.var (by walk_at "vr") (Rd.nil ?_))))))))
      refine ⟨_, rfl, .inl ⟨_, rfl, ?_⟩⟩
      with_reducible refine Rd.bl (Rd.iteF (by walk_at "bF") (Rd.test (Rd.op (Rd.var (by walk_at "vr") (Rd.c (Rd.i0 (Rd.bl (Rd.iteF (by walk_at "bF") (Rd.next (Rd.seq (Rd.ifS ?_)))))))))))
      with_reducible refine Rd.test (Rd.op (Rd.var (by walk_at "vr") (Rd.fld (Rd.var (by walk_at "vr") (⟨_, _, _, _, _, rfl, (by walk_at "hp"), T.k_SizeSet, T.n_SizeSet_start, (by walk_at "lk"), (Rd.i0 (Rd.bl (Rd.iteF (by walk_at "bF") (Rd.next (Rd.ret (Rd.op ?_))))))⟩)))))
      with_reducible refine Rd.fld (Rd.var (by walk_at "vr") (⟨_, _, _, _, _, rfl, (by walk_at "hp"), T.k_SizeSet, T.n_SizeSet_rest_marks, (by walk_at "lk"), (Rd.op (Rd.var (by walk_at "vr") (Rd.fld (Rd.var (by walk_at "vr") (⟨_, _, _, _, _, rfl, (by walk_at "hp"), T.k_SizeSet, T.n_SizeSet_period, (by walk_at "lk"), (Rd.iC (by walk_at "sc") ?_)⟩)))))⟩))
      refine Rd.ixL (by walk_at "hpl") (at_rest ok can h1 h2) ?_
      rw [decide_eq_true h1, Bool.true_and] at k
      exact k
    · skip
      refine ⟨_, (pss_cons (ps_if (PW.pt (pw_or (pt_not (pt_val (pe_call (ok_is_whole T) (hr.mono (by decide)) (by rfl) T.m_is_whole T.F_is_whole.kp T.b_is_whole .nil pass0 (pa_cons (pv 1) pa_nil)))) (pw_or1 Rd.ptN))) (pss_one (ps_ret pe_bl)) pss_nil)
      (pss_cons ps_never (pss_one ps_never))), ?_⟩
      try dsimp only [L2.cxOf, L2.Cx.nox, L2.Cx.wish]
      try rw [st_SizeSetu__containsu_]
      with_reducible refine Rd.seq (Rd.ifS (Rd.or (Rd.not (Rd.tb (Rd.call (Rd.cons (Rd.var (by walk_at "vr") (Rd.nil ?_))))))))
      refine ⟨_, rfl, .inr ⟨(by with_reducible assumption), ?_⟩⟩
      with_reducible refine Rd.bl (Rd.iteT (by walk_at "bT") (Rd.iteT rfl (Rd.ret (Rd.c ?_))))
      exact k
/-! common_parts -/
theorem sc_common_parts : FnScope ["one", "other", "period", "start"] ["one", "other"] (defScope s_common_parts) := ⟨rfl, rfl, rfl, by decide +kernel, rfl, by decide +kernel, by decide +kernel⟩
theorem st_common_parts {v0 v1 : V} : L2.start ["one", "other", "period", "start"] [v0, v1] = [some v0, some v1, none, none] := rfl
abbrev sp_common_parts (K : PySem.W.Frag) (A : Adr) : Sp := fun vs H Q _ => ∃ (p p' : Addr) (w t w' t' : Rows), vs = [.ref p, .ref p'] ∧ IsSet A H p w t ∧ IsSet A H p' w' t' ∧ 1 ≤ t.p ∧ t.p ≤ 2000 ∧ 1 ≤ t'.p ∧ t'.p ≤ 2000 ∧ 1 ≤ t.s ∧ t.s ≤ 2000 ∧ 1 ≤ t'.s ∧ t'.s ≤ 2000 ∧ Lcm.lcmI t.p t'.p ≤ 5000 ∧ ∀ (q : Addr) (H' : Hp), Same H H' → H' q = some (.tup [.int (topV t.s t'.s), .int (Lcm.lcmI t.p t'.p)]) → Q (.ref q) H'
theorem ok_common_parts (T : Txt w K mg A) : FnOk P w K mg base CX0 3 A.f_common_parts A.d_common_parts ["one", "other"] (sp_common_parts K A) := by
  refine T.F_common_parts.ok sc_common_parts (fun vs H Q E h => ?_) (fun cdv Ar outer s H vs Q E hr h => ?_)
  · obtain ⟨p, p', w, t, w', t', rfl, hs, hs', p1, p2, p3, p4, s1, s2, s3, s4, lc, k⟩ := h
    rfl
  · obtain ⟨p, p', w, t, w', t', rfl, hs, hs', p1, p2, p3, p4, s1, s2, s3, s4, lc, k⟩ := h
    have hu := hu_of hr
    have t_q_PART_NAMES := T.q_PART_NAMES
    have t_q_PART_WORDS_slot := T.q_PART_WORDS_slot
    have t_d_PART_WORDS_slot := T.d_PART_WORDS_slot
    have t_q_PART_WORDS_empty := T.q_PART_WORDS_empty
    have t_d_PART_WORDS_empty := T.d_PART_WORDS_empty
    have t_q_PART_WORDS_when := T.q_PART_WORDS_when
    have t_d_PART_WORDS_when := T.d_PART_WORDS_when
    have t_q_MEASURES := T.q_MEASURES
    have t_q_SIGNS := T.q_SIGNS
    have t_q_PLAIN_FULLS := T.q_PLAIN_FULLS
    have t_i_Form := T.i_Form
    have t_kt_Form_Form := T.kt_Form_Form
    have t_kt_int_Form := T.kt_int_Form
    have t_i_SizeSet := T.i_SizeSet
    have t_kt_SizeSet_SizeSet := T.kt_SizeSet_SizeSet
    have t_kt_tuple_SizeSet := T.kt_tuple_SizeSet
    have t_nf_Form_Form := T.nf_Form_Form
    have t_nf_int_Form := T.nf_int_Form
    have t_nf_SizeSet_SizeSet := T.nf_SizeSet_SizeSet
    have t_nf_tuple_SizeSet := T.nf_tuple_SizeSet
    have t_xm_NoSize_NoSize := T.xm_NoSize_NoSize
    have t_xm_NoRing_NoSize := T.xm_NoRing_NoSize
    have t_xm_NoRing_NoRing := T.xm_NoRing_NoRing
    have t_xm_NotDecided_NoSize := T.xm_NotDecided_NoSize
    have t_xm_NotDecided_NoRing := T.xm_NotDecided_NoRing
    have t_xm_NotDecided_NotDecided := T.xm_NotDecided_NotDecided
    have t_xm_NoLag_NoSize := T.xm_NoLag_NoSize
    have t_xm_NoLag_NoRing := T.xm_NoLag_NoRing
    have t_xm_NoLag_NotDecided := T.xm_NoLag_NotDecided
    have t_xm_NoLag_NoLag := T.xm_NoLag_NoLag
    have t_xm_TooLong_TooLong := T.xm_TooLong_TooLong
    have t_k_Form := T.k_Form
    have t_k_Scheme := T.k_Scheme
    have t_k_Belief := T.k_Belief
    have t_k_SizeSet := T.k_SizeSet
    obtain ⟨dx1, ea1, re1, em1, rm1, hp1, hea1, hre1, hem1, hrm1⟩ := id hs
    obtain ⟨dx2, ea2, re2, em2, rm2, hp2, hea2, hre2, hem2, hrm2⟩ := id hs'
    rcases (by omega : t'.s < t.s ∨ ¬ t'.s < t.s) with g | g
    · skip
      refine ⟨_, (pss_cons (ps_if (pt_not (pt_val (pe_callB (Rd.isi (K := K) rfl) (by rfl) T.n_isinstance (by decide +kernel) (pa_cons (pv 1) (pa_cons (pe_glob (v := .ref A.c_SizeSet) rfl T.m_SizeSet rfl) pa_nil))))) (pss_one ps_never) pss_nil)
      (pss_cons (ps_set (i := 2) sc_common_parts.nd rfl (Or.inl rfl) (Lcm.pe_callGB Lcm.call_lcm (by rfl) T.m_lcm (pa_cons (pe_prop (pv 0) T.k_SizeSet T.R_SizeSet_period (ok_SizeSet_period T) (hr.mono (by decide)) T.b_SizeSet_period .nil pass0 rfl) (pa_cons (pe_prop (pv 1) T.k_SizeSet T.R_SizeSet_period (ok_SizeSet_period T) (hr.mono (by decide)) T.b_SizeSet_period .nil pass0 rfl) pa_nil))))
      (pss_cons (ps_if (pt_cmpR op_gt (pv 2) (pe_glob (v := .int (5000)) rfl T.m_GREATEST_PERIOD ⟨_, rfl⟩) (nomark _)) (pss_one ps_never) pss_nil)
      (pss_cons (ps_set (i := 3) sc_common_parts.nd rfl (Or.inl rfl) (pe_ifExp (pt_cmpR op_gt (pe_prop (pv 0) T.k_SizeSet T.R_SizeSet_start (ok_SizeSet_start T) (hr.mono (by decide)) T.b_SizeSet_start .nil pass0 rfl) (pe_prop (pv 1) T.k_SizeSet T.R_SizeSet_start (ok_SizeSet_start T) (hr.mono (by decide)) T.b_SizeSet_start .nil pass0 rfl) (nomark _)) (pe_prop (pv 0) T.k_SizeSet T.R_SizeSet_start (ok_SizeSet_start T) (hr.mono (by decide)) T.b_SizeSet_start .nil pass0 rfl) Rd.peN))
      (pss_one (ps_ret (pe_tup (pa_cons (pv 3) (pa_cons (pv 2) pa_nil))))))))), ?_⟩
      try dsimp only [L2.cxOf, L2.Cx.nox, L2.Cx.wish]
      try rw [st_common_parts]
      with_reducible refine Rd.seq (Rd.ifS (Rd.not (Rd.tb (Rd.cB (Rd.cons (Rd.var (by walk_at "vr") (Rd.cons (Rd.c (Rd.nil ?_)))))))))
      refine ⟨_, _, _, _, _, rfl, (by walk_at "clsv"), (by walk_at "tyx"), (by walk_at "kit"), ?_⟩
      with_reducible refine Rd.bl (Rd.iteF (by walk_at "bF") (Rd.next (Rd.seq (Rd.asg (Rd.cB (Rd.cons (Rd.prop (Rd.var (by walk_at "vr") (⟨_, _, _, rfl, (by walk_at "hp"), ?_⟩)))))))))
      refine ⟨_, _, _, rfl, (by walk_at "set"), ?_⟩
      with_reducible refine Rd.cons (Rd.prop (Rd.var (by walk_at "vr") (⟨_, _, _, rfl, (by walk_at "hp"), ?_⟩)))
      refine ⟨_, _, _, rfl, (by walk_at "set"), ?_⟩
      with_reducible refine Rd.nil ?_
      refine ⟨_, _, rfl, (by omega), (by omega), ?_⟩
      with_reducible refine Rd.name ?_
      try dsimp only [Int.reduceToNat, List.set]
      with_reducible refine Rd.seq (Rd.ifS (Rd.test (Rd.op (Rd.var (by walk_at "vr") (Rd.c (Rd.i0 (Rd.bl (Rd.iteF (by walk_at "bF") (Rd.next (Rd.seq (Rd.asg ?_)))))))))))
      with_reducible refine Rd.ifE (Rd.test (Rd.op (Rd.prop (Rd.var (by walk_at "vr") (⟨_, _, _, rfl, (by walk_at "hp"), ?_⟩)))))
      refine ⟨_, _, _, rfl, (by walk_at "set"), ?_⟩
      with_reducible refine Rd.prop (Rd.var (by walk_at "vr") (⟨_, _, _, rfl, (by walk_at "hp"), ?_⟩))
      refine ⟨_, _, _, rfl, (by walk_at "set"), ?_⟩
      with_reducible refine Rd.i0 (Rd.bl (Rd.iteT (by walk_at "bT") (Rd.prop (Rd.var (by walk_at "vr") (⟨_, _, _, rfl, (by walk_at "hp"), ?_⟩)))))
      refine ⟨_, _, _, rfl, (by walk_at "set"), ?_⟩
      with_reducible refine Rd.name ?_
      try dsimp only [Int.reduceToNat, List.set]
      with_reducible refine Rd.ret (Rd.tup (Rd.cons (Rd.var (by walk_at "vr") (Rd.cons (Rd.var (by walk_at "vr") (Rd.nil (Rd.laid (by walk_at "ll") ?_)))))))
      intro p0 np0
      exact k _ _ (by walk_at "frm") (by rw [show topV t.s t'.s = t.s from if_pos g]; exact L2.upd_same)
    · skip
      refine ⟨_, (pss_cons (ps_if (pt_not (pt_val (pe_callB (Rd.isi (K := K) rfl) (by rfl) T.n_isinstance (by decide +kernel) (pa_cons (pv 1) (pa_cons (pe_glob (v := .ref A.c_SizeSet) rfl T.m_SizeSet rfl) pa_nil))))) (pss_one ps_never) pss_nil)
      (pss_cons (ps_set (i := 2) sc_common_parts.nd rfl (Or.inl rfl) (Lcm.pe_callGB Lcm.call_lcm (by rfl) T.m_lcm (pa_cons (pe_prop (pv 0) T.k_SizeSet T.R_SizeSet_period (ok_SizeSet_period T) (hr.mono (by decide)) T.b_SizeSet_period .nil pass0 rfl) (pa_cons (pe_prop (pv 1) T.k_SizeSet T.R_SizeSet_period (ok_SizeSet_period T) (hr.mono (by decide)) T.b_SizeSet_period .nil pass0 rfl) pa_nil))))
      (pss_cons (ps_if (pt_cmpR op_gt (pv 2) (pe_glob (v := .int (5000)) rfl T.m_GREATEST_PERIOD ⟨_, rfl⟩) (nomark _)) (pss_one ps_never) pss_nil)
      (pss_cons (ps_set (i := 3) sc_common_parts.nd rfl (Or.inl rfl) (pe_ifExp (pt_cmpR op_gt (pe_prop (pv 0) T.k_SizeSet T.R_SizeSet_start (ok_SizeSet_start T) (hr.mono (by decide)) T.b_SizeSet_start .nil pass0 rfl) (pe_prop (pv 1) T.k_SizeSet T.R_SizeSet_start (ok_SizeSet_start T) (hr.mono (by decide)) T.b_SizeSet_start .nil pass0 rfl) (nomark _)) Rd.peN (pe_prop (pv 1) T.k_SizeSet T.R_SizeSet_start (ok_SizeSet_start T) (hr.mono (by decide)) T.b_SizeSet_start .nil pass0 rfl)))
      (pss_one (ps_ret (pe_tup (pa_cons (pv 3) (pa_cons (pv 2) pa_nil))))))))), ?_⟩
      try dsimp only [L2.cxOf, L2.Cx.nox, L2.Cx.wish]
      try rw [st_common_parts]
      with_reducible refine Rd.seq (Rd.ifS (Rd.not (Rd.tb (Rd.cB (Rd.cons (Rd.var (by walk_at "vr") (Rd.cons (Rd.c (Rd.nil ?_)))))))))
      refine ⟨_, _, _, _, _, rfl, (by walk_at "clsv"), (by walk_at "tyx"), (by walk_at "kit"), ?_⟩
      with_reducible refine Rd.bl (Rd.iteF (by walk_at "bF") (Rd.next (Rd.seq (Rd.asg (Rd.cB (Rd.cons (Rd.prop (Rd.var (by walk_at "vr") (⟨_, _, _, rfl, (by walk_at "hp"), ?_⟩)))))))))
      refine ⟨_, _, _, rfl, (by walk_at "set"), ?_⟩
      with_reducible refine Rd.cons (Rd.prop (Rd.var (by walk_at "vr") (⟨_, _, _, rfl, (by walk_at "hp"), ?_⟩)))
      refine ⟨_, _, _, rfl, (by walk_at "set"), ?_⟩
      with_reducible refine Rd.nil ?_
      refine ⟨_, _, rfl, (by omega), (by omega), ?_⟩
      with_reducible refine Rd.name ?_
      try dsimp only [Int.reduceToNat, List.set]
      with_reducible refine Rd.seq (Rd.ifS (Rd.test (Rd.op (Rd.var (by walk_at "vr") (Rd.c (Rd.i0 (Rd.bl (Rd.iteF (by walk_at "bF") (Rd.next (Rd.seq (Rd.asg ?_)))))))))))
      with_reducible refine Rd.ifE (Rd.test (Rd.op (Rd.prop (Rd.var (by walk_at "vr") (⟨_, _, _, rfl, (by walk_at "hp"), ?_⟩)))))
      refine ⟨_, _, _, rfl, (by walk_at "set"), ?_⟩
      with_reducible refine Rd.prop (Rd.var (by walk_at "vr") (⟨_, _, _, rfl, (by walk_at "hp"), ?_⟩))
      refine ⟨_, _, _, rfl, (by walk_at "set"), ?_⟩
      with_reducible refine Rd.i0 (Rd.bl (Rd.iteF (by walk_at "bF") (Rd.prop (Rd.var (by walk_at "vr") (⟨_, _, _, rfl, (by walk_at "hp"), ?_⟩)))))
      refine ⟨_, _, _, rfl, (by walk_at "set"), ?_⟩
      with_reducible refine Rd.name ?_
      try dsimp only [Int.reduceToNat, List.set]
      with_reducible refine Rd.ret (Rd.tup (Rd.cons (Rd.var (by walk_at "vr") (Rd.cons (Rd.var (by walk_at "vr") (Rd.nil (Rd.laid (by walk_at "ll") ?_)))))))
      intro p0 np0
      exact k _ _ (by walk_at "frm") (by rw [show topV t.s t'.s = t'.s from if_neg g]; exact L2.upd_same)
/-! SizeSet.__le__ -/
theorem sc_SizeSetu__leu_ : FnScope ["self", "other", "start", "period", "n"] ["self", "other"] (defScope s_SizeSetu__leu_) := ⟨rfl, rfl, rfl, by decide +kernel, rfl, by decide +kernel, by decide +kernel⟩
theorem st_SizeSetu__leu_ {v0 v1 : V} : L2.start ["self", "other", "start", "period", "n"] [v0, v1] = [some v0, some v1, none, none, none] := rfl
abbrev sp_SizeSetu__leu_ (K : PySem.W.Frag) (A : Adr) : Sp := fun vs H Q _ => ∃ (p p' : Addr) (w t w' t' : Rows), vs = [.ref p, .ref p'] ∧ IsSet A H p w t ∧ IsSet A H p' w' t' ∧ Canon w t ∧ Canon w' t' ∧ w.Ok ∧ w'.Ok ∧ 1 ≤ t.p ∧ t.p ≤ 2000 ∧ 1 ≤ t'.p ∧ t'.p ≤ 2000 ∧ 1 ≤ t.s ∧ t.s ≤ 2000 ∧ 1 ≤ t'.s ∧ t'.s ≤ 2000 ∧ Lcm.lcmI t.p t'.p ≤ 5000 ∧ ∀ (b : Bool) (H' : Hp), Same H H' → (b = true ↔ ∀ n, 1 ≤ n → n < topV t.s t'.s + Lcm.lcmI t.p t'.p → w.has n = true → w'.has n = true) → Q (.bl b) H'
theorem ok_SizeSetu__leu_ (T : Txt w K mg A) : FnOk P w K mg base CX0 4 A.f_SizeSetu__leu_ A.d_SizeSetu__leu_ ["self", "other"] (sp_SizeSetu__leu_ K A) := by
  refine T.F_SizeSetu__leu_.ok sc_SizeSetu__leu_ (fun vs H Q E h => ?_) (fun cdv Ar outer s H vs Q E hr h => ?_)
  · obtain ⟨p, p', w, t, w', t', rfl, hs, hs', can, can', ok, ok', p1, p2, p3, p4, s1, s2, s3, s4, lc, k⟩ := h
    rfl
  · obtain ⟨p, p', w, t, w', t', rfl, hs, hs', can, can', ok, ok', p1, p2, p3, p4, s1, s2, s3, s4, lc, k⟩ := h
    have hu := hu_of hr
    have t_q_PART_NAMES := T.q_PART_NAMES
    have t_q_PART_WORDS_slot := T.q_PART_WORDS_slot
    have t_d_PART_WORDS_slot := T.d_PART_WORDS_slot
    have t_q_PART_WORDS_empty := T.q_PART_WORDS_empty
    have t_d_PART_WORDS_empty := T.d_PART_WORDS_empty
    have t_q_PART_WORDS_when := T.q_PART_WORDS_when
    have t_d_PART_WORDS_when := T.d_PART_WORDS_when
    have t_q_MEASURES := T.q_MEASURES
    have t_q_SIGNS := T.q_SIGNS
    have t_q_PLAIN_FULLS := T.q_PLAIN_FULLS
    have t_i_Form := T.i_Form
    have t_kt_Form_Form := T.kt_Form_Form
    have t_kt_int_Form := T.kt_int_Form
    have t_i_SizeSet := T.i_SizeSet
    have t_kt_SizeSet_SizeSet := T.kt_SizeSet_SizeSet
    have t_kt_tuple_SizeSet := T.kt_tuple_SizeSet
    have t_nf_Form_Form := T.nf_Form_Form
    have t_nf_int_Form := T.nf_int_Form
    have t_nf_SizeSet_SizeSet := T.nf_SizeSet_SizeSet
    have t_nf_tuple_SizeSet := T.nf_tuple_SizeSet
    have t_xm_NoSize_NoSize := T.xm_NoSize_NoSize
    have t_xm_NoRing_NoSize := T.xm_NoRing_NoSize
    have t_xm_NoRing_NoRing := T.xm_NoRing_NoRing
    have t_xm_NotDecided_NoSize := T.xm_NotDecided_NoSize
    have t_xm_NotDecided_NoRing := T.xm_NotDecided_NoRing
    have t_xm_NotDecided_NotDecided := T.xm_NotDecided_NotDecided
    have t_xm_NoLag_NoSize := T.xm_NoLag_NoSize
    have t_xm_NoLag_NoRing := T.xm_NoLag_NoRing
    have t_xm_NoLag_NotDecided := T.xm_NoLag_NotDecided
    have t_xm_NoLag_NoLag := T.xm_NoLag_NoLag
    have t_xm_TooLong_TooLong := T.xm_TooLong_TooLong
    have t_k_Form := T.k_Form
    have t_k_Scheme := T.k_Scheme
    have t_k_Belief := T.k_Belief
    have t_k_SizeSet := T.k_SizeSet
    obtain ⟨dx1, ea1, re1, em1, rm1, hp1, hea1, hre1, hem1, hrm1⟩ := id hs
    obtain ⟨dx2, ea2, re2, em2, rm2, hp2, hea2, hre2, hem2, hrm2⟩ := id hs'
    have lp := Lcm.lcm_pos p1 p3
    have tp : 1 ≤ topV t.s t'.s ∧ topV t.s t'.s ≤ 2000 := by unfold topV; split <;> omega
    refine ⟨_, (pss_cons (ps_asg (pe_call (ok_common_parts T) (hr.mono (by decide)) (by rfl) T.m_common_parts T.F_common_parts.kp T.b_common_parts .nil pass0 (pa_cons (pv 0) (pa_cons (pv 1) pa_nil))) (pg_tup (by rfl) (pgs_cons (pg_name (i := 2) sc_SizeSetu__leu_.nd rfl (Or.inl rfl)) (pgs_cons (pg_name (i := 3) sc_SizeSetu__leu_.nd rfl (Or.inl rfl)) pgs_nil))))
      (pss_one (ps_ret (pe_callB (cr_all (by rfl)) (by rfl) T.n_all (by decide +kernel) (pa_cons (pe_lc (own := [("n", 4)]) (g := gName 4) rfl sc_SizeSetu__leu_.nd (pi_range2 (by rfl) T.n_range (pa_cons pe_int (pa_cons (pe_op op_add (pv 2) (pv 3)) pa_nil))) (blkOk_by (own := [("n", 4)]) (N := ["self", "other", "start", "period", "n"]) (sc := defScope s_SizeSetu__leu_) (by decide +kernel)) (fun _ _ _ _ _ => (pg_name (i := 4) sc_SizeSetu__leu_.nd rfl (Or.inl rfl))) (fun _ _ _ _ _ => pts_one (pt_cmpR (Own.isin (ok_SizeSetu__containsu_ T) (hr.mono (by decide)) T.O_SizeSetu__containsu__1 T.b_SizeSetu__containsu_ pass0) (pv 4) (pv 0) (by with_unfolding_all rfl))) (fun _ _ _ _ _ => (pe_cmpR (Own.isin (ok_SizeSetu__containsu_ T) (hr.mono (by decide)) T.O_SizeSetu__containsu__1 T.b_SizeSetu__containsu_ pass0) (pv 4) (pv 1) (by with_unfolding_all rfl)))) pa_nil))))), ?_⟩
    try dsimp only [L2.cxOf, L2.Cx.nox, L2.Cx.wish]
    try rw [st_SizeSetu__leu_]
    with_reducible refine Rd.seq (Rd.asg (Rd.call (Rd.cons (Rd.var (by walk_at "vr") (Rd.cons (Rd.var (by walk_at "vr") (Rd.nil ?_)))))))
    refine ⟨_, _, _, _, _, _, rfl, (by walk_at "set"), (by walk_at "set"), (by omega), (by omega), (by omega), (by omega), (by omega), (by omega), (by omega), (by omega), (by omega), fun q1 H1 S1 hq1 => ?_⟩
    refine Rd.gtup (by walk_at "hpt") rfl ?_
    with_reducible refine Rd.gcons (Rd.name (Rd.gcons (Rd.name (Rd.gnil (Rd.ret (Rd.cB (Rd.cons (Rd.lc (Rd.rng2 (Rd.cons (Rd.c ?_)))))))))))
    with_reducible refine Rd.cons (Rd.op (Rd.var (by walk_at "vr") (Rd.var (by walk_at "vr") (Rd.i0 (Rd.nil (⟨_, _, rfl, ⟨(by walk_at "sc"), (by walk_at "sc"), (by walk_at "sc"), (by walk_at "sc")⟩, ?_⟩))))))
    intro D0 nD0
    refine' lc_range (fun i H' => Same H H' ∧ H' D0 = some (.lst (((M31.up w.has i 1).map w'.has).map V.bl))) (⟨by walk_at "frm", L2.upd_same⟩) (fun i H' hi p => ?lct0_u8) (fun H' p => ?lcd0_u8)
    case lct0_u8 =>
      obtain ⟨S9, hD⟩ := p
      have al9 : (((M31.up w.has i 1).map w'.has).map V.bl).length ≤ 8900 := by rw [List.length_map, List.length_map]; have := up_len (f := w.has) i 1; omega
      with_reducible refine Rd.name ?_
      refine ⟨rfl, ?_⟩
      with_reducible refine Rd.test (Rd.op (Rd.var (by walk_at "vr") (Rd.var (by walk_at "vr") ?_)))
      refine ⟨_, _, _, rfl, (by walk_at "hp"), ?_⟩
      refine ⟨_, _, _, _, rfl, (by walk_at "set"), (by assumption), (by assumption), .inl ⟨_, rfl, ⟨_, rfl, ?_⟩⟩⟩
      with_reducible refine Rd.bl ?_
      refine Rd.ite (fun h0 => ?_) (fun h0 => ?_)
      · try simp only [decide_eq_true_eq, Bool.not_eq_true', decide_eq_false_iff_not, Bool.not_eq_true, Bool.not_eq_eq_eq_not, Bool.not_true, Bool.not_false] at h0
        with_reducible refine Rd.op (Rd.var (by walk_at "vr") (Rd.var (by walk_at "vr") ?_))
        refine ⟨_, _, _, rfl, (by walk_at "hp"), ?_⟩
        refine ⟨_, _, _, _, rfl, (by walk_at "set"), (by assumption), (by assumption), .inl ⟨_, rfl, ⟨_, rfl, ?_⟩⟩⟩
        rw [decide_eq_true (show (1 : Int) ≤ 1 + (i : Int) by omega), Bool.true_and]
        refine ⟨_, (by walk_at "hp"), (by walk_at "sz"), ?_⟩
        rw [decide_eq_true (show (1 : Int) ≤ 1 + (i : Int) by omega), Bool.true_and] at h0
        refine ⟨by walk_at "frm", ?_⟩
        rw [up_snoc, if_pos h0, List.map_append, List.map_append]
        exact L2.upd_same
      · try simp only [decide_eq_true_eq, Bool.not_eq_true', decide_eq_false_iff_not, Bool.not_eq_true, Bool.not_eq_eq_eq_not, Bool.not_true, Bool.not_false, Int.not_lt, Int.not_le, Decidable.not_not] at h0
        rw [decide_eq_true (show (1 : Int) ≤ 1 + (i : Int) by omega), Bool.true_and] at h0
        exact ⟨S9, by rw [up_snoc, if_neg (by rw [h0]; exact Bool.false_ne_true), List.append_nil]; exact hD⟩
    obtain ⟨S9, hD9⟩ := p
    with_reducible refine Rd.nil ?_
    refine ⟨_, _, rfl, (by walk_at "hpl"), ?_⟩
    refine k _ _ (by walk_at "frm") (all_up.trans ⟨fun h n a b => h n a (by omega), fun h n a b => h n a (by omega)⟩)
/-! Form.__init__ -/
theorem sc_Formu__initu_ : FnScope ["self", "slope", "base"] ["self", "slope", "base"] (defScope s_Formu__initu_) := ⟨rfl, rfl, rfl, by decide +kernel, rfl, by decide +kernel, by decide +kernel⟩
abbrev sp_Formu__initu_ (K : PySem.W.Frag) (A : Adr) : Sp := fun vs H Q _ => ∃ (p dx : Addr) (s b : Int), vs = [.ref p, .int s, .int b] ∧ H p = some (.ins A.c_Form dx []) ∧ Q .non (upd H p (.ins A.c_Form dx (fF s b)))
theorem ok_Formu__initu_ (T : Txt w K mg A) : FnOk P w K mg base CX0 2 A.f_Formu__initu_ A.d_Formu__initu_ ["self", "slope", "base"] (sp_Formu__initu_ K A) := by
  refine T.F_Formu__initu_.ok sc_Formu__initu_ (fun vs H Q E h => ?_) (fun cdv Ar outer s H vs Q E hr h => ?_)
  · obtain ⟨p, dx, s, b, rfl, hp, k⟩ := h
    rfl
  · obtain ⟨p, dx, s, b, rfl, hp, k⟩ := h
    have hu := hu_of hr
    have t_q_PART_NAMES := T.q_PART_NAMES
    have t_q_PART_WORDS_slot := T.q_PART_WORDS_slot
    have t_d_PART_WORDS_slot := T.d_PART_WORDS_slot
    have t_q_PART_WORDS_empty := T.q_PART_WORDS_empty
    have t_d_PART_WORDS_empty := T.d_PART_WORDS_empty
    have t_q_PART_WORDS_when := T.q_PART_WORDS_when
    have t_d_PART_WORDS_when := T.d_PART_WORDS_when
    have t_q_MEASURES := T.q_MEASURES
    have t_q_SIGNS := T.q_SIGNS
    have t_q_PLAIN_FULLS := T.q_PLAIN_FULLS
    have t_i_Form := T.i_Form
    have t_kt_Form_Form := T.kt_Form_Form
    have t_kt_int_Form := T.kt_int_Form
    have t_i_SizeSet := T.i_SizeSet
    have t_kt_SizeSet_SizeSet := T.kt_SizeSet_SizeSet
    have t_kt_tuple_SizeSet := T.kt_tuple_SizeSet
    have t_nf_Form_Form := T.nf_Form_Form
    have t_nf_int_Form := T.nf_int_Form
    have t_nf_SizeSet_SizeSet := T.nf_SizeSet_SizeSet
    have t_nf_tuple_SizeSet := T.nf_tuple_SizeSet
    have t_xm_NoSize_NoSize := T.xm_NoSize_NoSize
    have t_xm_NoRing_NoSize := T.xm_NoRing_NoSize
    have t_xm_NoRing_NoRing := T.xm_NoRing_NoRing
    have t_xm_NotDecided_NoSize := T.xm_NotDecided_NoSize
    have t_xm_NotDecided_NoRing := T.xm_NotDecided_NoRing
    have t_xm_NotDecided_NotDecided := T.xm_NotDecided_NotDecided
    have t_xm_NoLag_NoSize := T.xm_NoLag_NoSize
    have t_xm_NoLag_NoRing := T.xm_NoLag_NoRing
    have t_xm_NoLag_NotDecided := T.xm_NoLag_NotDecided
    have t_xm_NoLag_NoLag := T.xm_NoLag_NoLag
    have t_xm_TooLong_TooLong := T.xm_TooLong_TooLong
    have t_k_Form := T.k_Form
    have t_k_Scheme := T.k_Scheme
    have t_k_Belief := T.k_Belief
    have t_k_SizeSet := T.k_SizeSet
    refine ⟨_, (pss_cons (ps_if (PW.pt (pw_or (pt_not (pt_val (pe_call (ok_is_whole T) (hr.mono (by decide)) (by rfl) T.m_is_whole T.F_is_whole.kp T.b_is_whole .nil pass0 (pa_cons (pv 1) pa_nil)))) (pw_or1 (pt_not (pt_val (pe_call (ok_is_whole T) (hr.mono (by decide)) (by rfl) T.m_is_whole T.F_is_whole.kp T.b_is_whole .nil pass0 (pa_cons (pv 2) pa_nil))))))) (pss_one ps_never) pss_nil)
      (pss_cons (ps_fld (pv 0) (pv 1) rfl)
      (pss_one (ps_fld (pv 0) (pv 2) rfl)))), ?_⟩
    try dsimp only [L2.cxOf, L2.Cx.nox, L2.Cx.wish]
    with_reducible refine Rd.seq (Rd.ifS (Rd.or (Rd.not (Rd.tb (Rd.call (Rd.cons (Rd.var (by walk_at "vr") (Rd.nil ?_))))))))
    refine ⟨_, rfl, .inl ⟨_, rfl, ?_⟩⟩
    with_reducible refine Rd.bl (Rd.iteF (by walk_at "bF") (Rd.not (Rd.tb (Rd.call (Rd.cons (Rd.var (by walk_at "vr") (Rd.nil ?_)))))))
    refine ⟨_, rfl, .inl ⟨_, rfl, ?_⟩⟩
    with_reducible refine Rd.bl (Rd.iteF (by walk_at "bF") (Rd.next (Rd.seq (Rd.sfld (Rd.var (by walk_at "vr") (Rd.var (by walk_at "vr") (⟨_, _, _, _, rfl, (by walk_at "hp"), T.k_Form, T.n_Form_slope, (by walk_at "sfl"), (Rd.sfld (Rd.var (by walk_at "vr") (Rd.var (by walk_at "vr") (⟨_, _, _, _, rfl, (by walk_at "hp"), T.k_Form, T.n_Form_base, (by walk_at "sfl"), ?_⟩))))⟩)))))))
    rw [L2.upd_upd, fF_put]
    exact k
/-! form_at -/
theorem sc_form_at : FnScope ["form", "n"] ["form", "n"] (defScope s_form_at) := ⟨rfl, rfl, rfl, by decide +kernel, rfl, by decide +kernel, by decide +kernel⟩
abbrev sp_form_at (K : PySem.W.Frag) (A : Adr) : Sp := fun vs H Q _ => ∃ (p dx : Addr) (s b n : Int), vs = [.ref p, .int n] ∧ H p = some (.ins A.c_Form dx (fF s b)) ∧ (-(2 ^ 190) < s ∧ s < 2 ^ 190) ∧ (-(2 ^ 190) < n ∧ n < 2 ^ 190) ∧ Q (.int (s * n + b)) H
theorem ok_form_at (T : Txt w K mg A) : FnOk P w K mg base CX0 1 A.f_form_at A.d_form_at ["form", "n"] (sp_form_at K A) := by
  refine T.F_form_at.ok sc_form_at (fun vs H Q E h => ?_) (fun cdv Ar outer s H vs Q E hr h => ?_)
  · obtain ⟨p, dx, s, b, n, rfl, hp, hs, hn, k⟩ := h
    rfl
  · obtain ⟨p, dx, s, b, n, rfl, hp, hs, hn, k⟩ := h
    have hu := hu_of hr
    have t_q_PART_NAMES := T.q_PART_NAMES
    have t_q_PART_WORDS_slot := T.q_PART_WORDS_slot
    have t_d_PART_WORDS_slot := T.d_PART_WORDS_slot
    have t_q_PART_WORDS_empty := T.q_PART_WORDS_empty
    have t_d_PART_WORDS_empty := T.d_PART_WORDS_empty
    have t_q_PART_WORDS_when := T.q_PART_WORDS_when
    have t_d_PART_WORDS_when := T.d_PART_WORDS_when
    have t_q_MEASURES := T.q_MEASURES
    have t_q_SIGNS := T.q_SIGNS
    have t_q_PLAIN_FULLS := T.q_PLAIN_FULLS
    have t_i_Form := T.i_Form
    have t_kt_Form_Form := T.kt_Form_Form
    have t_kt_int_Form := T.kt_int_Form
    have t_i_SizeSet := T.i_SizeSet
    have t_kt_SizeSet_SizeSet := T.kt_SizeSet_SizeSet
    have t_kt_tuple_SizeSet := T.kt_tuple_SizeSet
    have t_nf_Form_Form := T.nf_Form_Form
    have t_nf_int_Form := T.nf_int_Form
    have t_nf_SizeSet_SizeSet := T.nf_SizeSet_SizeSet
    have t_nf_tuple_SizeSet := T.nf_tuple_SizeSet
    have t_xm_NoSize_NoSize := T.xm_NoSize_NoSize
    have t_xm_NoRing_NoSize := T.xm_NoRing_NoSize
    have t_xm_NoRing_NoRing := T.xm_NoRing_NoRing
    have t_xm_NotDecided_NoSize := T.xm_NotDecided_NoSize
    have t_xm_NotDecided_NoRing := T.xm_NotDecided_NoRing
    have t_xm_NotDecided_NotDecided := T.xm_NotDecided_NotDecided
    have t_xm_NoLag_NoSize := T.xm_NoLag_NoSize
    have t_xm_NoLag_NoRing := T.xm_NoLag_NoRing
    have t_xm_NoLag_NotDecided := T.xm_NoLag_NotDecided
    have t_xm_NoLag_NoLag := T.xm_NoLag_NoLag
    have t_xm_TooLong_TooLong := T.xm_TooLong_TooLong
    have t_k_Form := T.k_Form
    have t_k_Scheme := T.k_Scheme
    have t_k_Belief := T.k_Belief
    have t_k_SizeSet := T.k_SizeSet
    refine ⟨_, (pss_one (ps_ret (pe_op op_add (pe_op op_mulW (pe_fld (pv 0) rfl) (pv 1)) (pe_fld (pv 0) rfl)))), ?_⟩
    try dsimp only [L2.cxOf, L2.Cx.nox, L2.Cx.wish]
    with_reducible refine Rd.ret (Rd.op (Rd.op (Rd.fld (Rd.var (by walk_at "vr") (⟨_, _, _, _, _, rfl, (by walk_at "hp"), T.k_Form, T.n_Form_slope, (by walk_at "lk"), (Rd.var (by walk_at "vr") (Rd.iC (by walk_at "scm") (Rd.fld (Rd.var (by walk_at "vr") (⟨_, _, _, _, _, rfl, (by walk_at "hp"), T.k_Form, T.n_Form_base, (by walk_at "lk"), (Rd.i0 ?_)⟩)))))⟩)))))
    exact k
/-! Scheme.wrap -/
theorem sc_Scheme_wrap : FnScope ["self"] ["self"] (defScope s_Scheme_wrap) := ⟨rfl, rfl, rfl, by decide +kernel, rfl, by decide +kernel, by decide +kernel⟩
def sp_Scheme_wrap (P : Program) (w : World) (mg : Str → Option Value) (base : Heap) (K : PySem.W.Frag) (A : Adr) : Sp := fun vs H Q E => vs.length = 1 ∧ ∀ (cdv : Value) (Ar : Around) (outer : List Env) (s : Shared), Room 0 (Ar.deeper (PyProof.Rows.envOfC "Scheme.wrap" (defScope s_Scheme_wrap) s.heap.objs.size A.f_Scheme_wrap cdv)) → ∃ t, PSs (cxOf CX0 P w K mg base ["self"] "Scheme.wrap" (defScope s_Scheme_wrap) A.f_Scheme_wrap cdv Ar outer s H E).nox (defBody s_Scheme_wrap) t ∧ t { nx := fun _ H' => Q .non H', rt := Q } (start ["self"] vs) H
theorem in_Scheme_wrap {vs : List V} {H : Hp} {Q : VK} {E : XK} (h : ∀ (cdv : Value) (Ar : Around) (outer : List Env) (s : Shared), Room 0 (Ar.deeper (PyProof.Rows.envOfC "Scheme.wrap" (defScope s_Scheme_wrap) s.heap.objs.size A.f_Scheme_wrap cdv)) → ∃ t, PSs (cxOf CX0 P w K mg base ["self"] "Scheme.wrap" (defScope s_Scheme_wrap) A.f_Scheme_wrap cdv Ar outer s H E).nox (defBody s_Scheme_wrap) t ∧ t { nx := fun _ H' => Q .non H', rt := Q } (start ["self"] vs) H) (e : vs.length = 1) : sp_Scheme_wrap P w mg base K A vs H Q E := ⟨e, h⟩
theorem ok_Scheme_wrap (T : Txt w K mg A) : FnOk P w K mg base CX0 1 A.f_Scheme_wrap A.d_Scheme_wrap ["self"] (sp_Scheme_wrap P w mg base K A) := T.F_Scheme_wrap.ok sc_Scheme_wrap (fun _ _ _ _ h => h.1) (fun cdv Ar outer s H vs Q E hr h => h.2 cdv Ar outer s hr)
/-! wrap_at -/
theorem sc_wrap_at : FnScope ["wrap", "n"] ["wrap", "n"] (defScope s_wrap_at) := ⟨rfl, rfl, rfl, by decide +kernel, rfl, by decide +kernel, by decide +kernel⟩
abbrev sp_wrap_at (K : PySem.W.Frag) (A : Adr) : Sp := fun vs H Q _ => ∃ (v : V) (t : Wr) (n : Int), vs = [v, .int n] ∧ IsWrap A H v t ∧ WfW t ∧ 1 ≤ n ∧ n ≤ 1000000000000000000000000000000 ∧ Q (.int (modV t n)) H
theorem ok_wrap_at (T : Txt w K mg A) : FnOk P w K mg base CX0 2 A.f_wrap_at A.d_wrap_at ["wrap", "n"] (sp_wrap_at K A) := by
  refine T.F_wrap_at.ok sc_wrap_at (fun vs H Q E h => ?_) (fun cdv Ar outer s H vs Q E hr h => ?_)
  · obtain ⟨v, t, n, rfl, hw, hf, n1, n2, k⟩ := h
    rfl
  · obtain ⟨v, t, n, rfl, hw, hf, n1, n2, k⟩ := h
    have hu := hu_of hr
    have t_q_PART_NAMES := T.q_PART_NAMES
    have t_q_PART_WORDS_slot := T.q_PART_WORDS_slot
    have t_d_PART_WORDS_slot := T.d_PART_WORDS_slot
    have t_q_PART_WORDS_empty := T.q_PART_WORDS_empty
    have t_d_PART_WORDS_empty := T.d_PART_WORDS_empty
    have t_q_PART_WORDS_when := T.q_PART_WORDS_when
    have t_d_PART_WORDS_when := T.d_PART_WORDS_when
    have t_q_MEASURES := T.q_MEASURES
    have t_q_SIGNS := T.q_SIGNS
    have t_q_PLAIN_FULLS := T.q_PLAIN_FULLS
    have t_i_Form := T.i_Form
    have t_kt_Form_Form := T.kt_Form_Form
    have t_kt_int_Form := T.kt_int_Form
    have t_i_SizeSet := T.i_SizeSet
    have t_kt_SizeSet_SizeSet := T.kt_SizeSet_SizeSet
    have t_kt_tuple_SizeSet := T.kt_tuple_SizeSet
    have t_nf_Form_Form := T.nf_Form_Form
    have t_nf_int_Form := T.nf_int_Form
    have t_nf_SizeSet_SizeSet := T.nf_SizeSet_SizeSet
    have t_nf_tuple_SizeSet := T.nf_tuple_SizeSet
    have t_xm_NoSize_NoSize := T.xm_NoSize_NoSize
    have t_xm_NoRing_NoSize := T.xm_NoRing_NoSize
    have t_xm_NoRing_NoRing := T.xm_NoRing_NoRing
    have t_xm_NotDecided_NoSize := T.xm_NotDecided_NoSize
    have t_xm_NotDecided_NoRing := T.xm_NotDecided_NoRing
    have t_xm_NotDecided_NotDecided := T.xm_NotDecided_NotDecided
    have t_xm_NoLag_NoSize := T.xm_NoLag_NoSize
    have t_xm_NoLag_NoRing := T.xm_NoLag_NoRing
    have t_xm_NoLag_NotDecided := T.xm_NoLag_NotDecided
    have t_xm_NoLag_NoLag := T.xm_NoLag_NoLag
    have t_xm_TooLong_TooLong := T.xm_TooLong_TooLong
    have t_k_Form := T.k_Form
    have t_k_Scheme := T.k_Scheme
    have t_k_Belief := T.k_Belief
    have t_k_SizeSet := T.k_SizeSet
    rcases t with w | ⟨s, b⟩
    · have hw : v = .int w := hw
      subst hw
      have hf : 1 ≤ w ∧ w ≤ 100 := hf
      refine ⟨_, (pss_cons (ps_if (pt_val (pe_callB (Rd.isi (K := K) rfl) (by rfl) T.n_isinstance (by decide +kernel) (pa_cons (pv 0) (pa_cons (pe_glob (v := .ref A.c_Form) rfl T.m_Form rfl) pa_nil)))) (pss_one ps_never) pss_nil)
      (pss_one (ps_ret (pe_op op_shl pe_int (pv 0))))), ?_⟩
      try dsimp only [L2.cxOf, L2.Cx.nox, L2.Cx.wish]
      with_reducible refine Rd.seq (Rd.ifS (Rd.tb (Rd.cB (Rd.cons (Rd.var (by walk_at "vr") (Rd.cons (Rd.c (Rd.nil ?_))))))))
      refine ⟨_, _, _, _, _, rfl, (by walk_at "clsv"), (by walk_at "tyx"), (by walk_at "kit"), ?_⟩
      with_reducible refine Rd.bl (Rd.iteF (by first | with_unfolding_all rfl | walk_at "bF") (Rd.next (Rd.ret (Rd.op (Rd.c (Rd.var (by walk_at "vr") (Rd.iC (by walk_at "scp") ?_)))))))
      exact k
    · obtain ⟨p, dx, rfl, hp⟩ := hw
      have hf : 0 ≤ s ∧ s ≤ 4 ∧ -20 ≤ b ∧ b ≤ 20 := hf
      refine ⟨_, (pss_cons (ps_if (pt_val (pe_callB (Rd.isi (K := K) rfl) (by rfl) T.n_isinstance (by decide +kernel) (pa_cons (pv 0) (pa_cons (pe_glob (v := .ref A.c_Form) rfl T.m_Form rfl) pa_nil)))) (pss_one (ps_ret (pe_call (ok_form_at T) (hr.mono (by decide)) (by rfl) T.m_form_at T.F_form_at.kp T.b_form_at .nil pass0 (pa_cons (pv 0) (pa_cons (pv 1) pa_nil))))) pss_nil)
      (pss_one ps_never)), ?_⟩
      try dsimp only [L2.cxOf, L2.Cx.nox, L2.Cx.wish]
      with_reducible refine Rd.seq (Rd.ifS (Rd.tb (Rd.cB (Rd.cons (Rd.var (by walk_at "vr") (Rd.cons (Rd.c (Rd.nil ?_))))))))
      refine ⟨_, _, _, _, _, rfl, (by walk_at "clsv"), (by walk_at "tyx"), (by walk_at "kit"), ?_⟩
      with_reducible refine Rd.bl (Rd.iteT (by first | with_unfolding_all rfl | walk_at "bT") (Rd.ret (Rd.call (Rd.cons (Rd.var (by walk_at "vr") (Rd.cons (Rd.var (by walk_at "vr") (Rd.nil ?_))))))))
      refine ⟨_, _, _, _, _, rfl, (by walk_at "hp"), (by walk_at "sc"), (by walk_at "sc"), ?_⟩
      exact k
/-! modulus_of -/
theorem sc_modulus_of : FnScope ["scheme", "n", "modulus"] ["scheme", "n"] (defScope s_modulus_of) := ⟨rfl, rfl, rfl, by decide +kernel, rfl, by decide +kernel, by decide +kernel⟩
abbrev sp_modulus_of (K : PySem.W.Frag) (A : Adr) : Sp := fun vs H Q E => ∃ (p : Addr) (t : Pt) (y : V), vs = [.ref p, y] ∧ IsScheme A H p t ∧ WfW t.wrap ∧ ((∃ n : Int, y = .int n ∧ 1 ≤ n ∧ n ≤ 1000000000000000000000000000000 ∧ ((1 ≤ modV t.wrap n ∧ Q (.int (modV t.wrap n)) H) ∨ (modV t.wrap n < 1 ∧ ∀ H1, Same H H1 → E (.ref A.c_NoRing) none H1))) ∨ (BadN K H y ∧ ∀ H1, Same H H1 → E (.ref A.c_NoSize) none H1))
theorem ok_modulus_of (T : Txt w K mg A) : FnOk P w K mg base (L2.CX P w) 5 A.f_modulus_of A.d_modulus_of ["scheme", "n"] (sp_modulus_of K A) := by
  refine T.F_modulus_of.okX sc_modulus_of (fun vs H Q E h => ?_) (fun cdv Ar outer s H vs Q E hr h => ?_)
  · obtain ⟨p, t, y, rfl, ⟨dx, d, vw, vf, hp, hd, hw, hfl⟩, hf, hy⟩ := h
    rfl
  · obtain ⟨p, t, y, rfl, ⟨dx, d, vw, vf, hp, hd, hw, hfl⟩, hf, hy⟩ := h
    have hu := hu_of hr
    have t_q_PART_NAMES := T.q_PART_NAMES
    have t_q_PART_WORDS_slot := T.q_PART_WORDS_slot
    have t_d_PART_WORDS_slot := T.d_PART_WORDS_slot
    have t_q_PART_WORDS_empty := T.q_PART_WORDS_empty
    have t_d_PART_WORDS_empty := T.d_PART_WORDS_empty
    have t_q_PART_WORDS_when := T.q_PART_WORDS_when
    have t_d_PART_WORDS_when := T.d_PART_WORDS_when
    have t_q_MEASURES := T.q_MEASURES
    have t_q_SIGNS := T.q_SIGNS
    have t_q_PLAIN_FULLS := T.q_PLAIN_FULLS
    have t_i_Form := T.i_Form
    have t_kt_Form_Form := T.kt_Form_Form
    have t_kt_int_Form := T.kt_int_Form
    have t_i_SizeSet := T.i_SizeSet
    have t_kt_SizeSet_SizeSet := T.kt_SizeSet_SizeSet
    have t_kt_tuple_SizeSet := T.kt_tuple_SizeSet
    have t_nf_Form_Form := T.nf_Form_Form
    have t_nf_int_Form := T.nf_int_Form
    have t_nf_SizeSet_SizeSet := T.nf_SizeSet_SizeSet
    have t_nf_tuple_SizeSet := T.nf_tuple_SizeSet
    have t_xm_NoSize_NoSize := T.xm_NoSize_NoSize
    have t_xm_NoRing_NoSize := T.xm_NoRing_NoSize
    have t_xm_NoRing_NoRing := T.xm_NoRing_NoRing
    have t_xm_NotDecided_NoSize := T.xm_NotDecided_NoSize
    have t_xm_NotDecided_NoRing := T.xm_NotDecided_NoRing
    have t_xm_NotDecided_NotDecided := T.xm_NotDecided_NotDecided
    have t_xm_NoLag_NoSize := T.xm_NoLag_NoSize
    have t_xm_NoLag_NoRing := T.xm_NoLag_NoRing
    have t_xm_NoLag_NotDecided := T.xm_NoLag_NotDecided
    have t_xm_NoLag_NoLag := T.xm_NoLag_NoLag
    have t_xm_TooLong_TooLong := T.xm_TooLong_TooLong
    have t_k_Form := T.k_Form
    have t_k_Scheme := T.k_Scheme
    have t_k_Belief := T.k_Belief
    have t_k_SizeSet := T.k_SizeSet
    rcases hy with ⟨n, rfl, n1, n2, ⟨hm, k⟩ | ⟨hm, k⟩⟩ | ⟨⟨i, rfl, hb⟩ | ⟨i, rfl, hb⟩ | hb, k⟩
    · skip
      refine ⟨_, (pss_cons (ps_expr (pe_call (ok_check_size T) (hr.mono (by decide)) (by rfl) T.m_check_size T.F_check_size.kp T.b_check_size .nil (passes_call (takes_of rfl rfl rfl rfl) fun _ _ _ _ h => h) (pa_cons (pv 1) pa_nil)))
      (pss_cons (ps_set (i := 2) sc_modulus_of.nd rfl (Or.inl rfl) (pe_call (ok_wrap_at T) (hr.mono (by decide)) (by rfl) T.m_wrap_at T.F_wrap_at.kp T.b_wrap_at .nil pass0 (pa_cons (pe_prop (pv 0) T.k_Scheme T.R_Scheme_wrap (ok_Scheme_wrap T) (hr.mono (by decide)) T.b_Scheme_wrap .nil pass0 rfl) (pa_cons (pv 1) pa_nil))))
      (pss_cons (ps_if (pt_cmpR op_lt (pv 2) pe_int (nomark _)) (pss_one ps_never) pss_nil)
      (pss_one (ps_ret (pv 2)))))), ?_⟩
      try dsimp only [L2.cxOf, L2.Cx.nox, L2.Cx.wish]
      with_reducible refine Rd.seq (Rd.drop (Rd.call (Rd.cons (Rd.var (by walk_at "vr") (Rd.nil ?_)))))
      refine ⟨_, rfl, .inl ⟨_, rfl, (by walk_at "sc"), (by walk_at "sc"), ?_⟩⟩
      with_reducible refine Rd.seq (Rd.asg (Rd.call (Rd.cons (Rd.prop (Rd.var (by walk_at "vr") (⟨_, _, _, rfl, (by walk_at "hp"), ?_⟩))))))
      refine in_Scheme_wrap (fun cdv Ar outer s hr => ?_) rfl
      have hu := hu_of hr
      refine ⟨_, (pss_one (ps_ret (pe_dget hu (pe_fld (pv 0) rfl) pe_str (fun _ _ => rfl)))), ?_⟩
      try dsimp only [L2.cxOf, L2.Cx.nox, L2.Cx.wish]
      with_reducible refine Rd.ret (Rd.dget (Rd.fld (Rd.var (by walk_at "vr") (⟨_, _, _, _, _, rfl, (by walk_at "hp"), T.k_Scheme, T.n_Scheme_parts, (by walk_at "lk"), (Rd.c ?_)⟩))))
      refine Rd.dget2 (by walk_at "hp") (by walk_at "dl") ?_
      with_reducible refine Rd.cons (Rd.var (by walk_at "vr") (Rd.nil ?_))
      refine ⟨_, _, _, rfl, (by assumption), (by assumption), (by walk_at "sc"), (by walk_at "sc"), ?_⟩
      with_reducible refine Rd.name (Rd.seq (Rd.ifS (Rd.test (Rd.op (Rd.var (by walk_at "vr") (Rd.c (Rd.i0 (Rd.bl (Rd.iteF (by walk_at "bF") (Rd.next (Rd.ret ?_)))))))))))
      with_reducible refine Rd.var (by walk_at "vr") ?_
      exact k
    · skip
      refine ⟨_, (pss_cons (ps_expr (pe_call (ok_check_size T) (hr.mono (by decide)) (by rfl) T.m_check_size T.F_check_size.kp T.b_check_size .nil (passes_call (takes_of rfl rfl rfl rfl) fun _ _ _ _ h => h) (pa_cons (pv 1) pa_nil)))
      (pss_cons (ps_set (i := 2) sc_modulus_of.nd rfl (Or.inl rfl) (pe_call (ok_wrap_at T) (hr.mono (by decide)) (by rfl) T.m_wrap_at T.F_wrap_at.kp T.b_wrap_at .nil pass0 (pa_cons (pe_prop (pv 0) T.k_Scheme T.R_Scheme_wrap (ok_Scheme_wrap T) (hr.mono (by decide)) T.b_Scheme_wrap .nil pass0 rfl) (pa_cons (pv 1) pa_nil))))
      (pss_cons (ps_if (pt_cmpR op_lt (pv 2) pe_int (nomark _)) (pss_one (ps_raise rfl (takes_of rfl rfl rfl rfl) (pmk_own PySem.F.excBase_ValueError T.x_NoRing T.m_NoRing T.kp_NoRing (raises_own T.sb_NoRing T.tc_NoRing) rfl))) pss_nil)
      (pss_one ps_never)))), ?_⟩
      try dsimp only [L2.cxOf, L2.Cx.nox, L2.Cx.wish]
      with_reducible refine Rd.seq (Rd.drop (Rd.call (Rd.cons (Rd.var (by walk_at "vr") (Rd.nil ?_)))))
      refine ⟨_, rfl, .inl ⟨_, rfl, (by walk_at "sc"), (by walk_at "sc"), ?_⟩⟩
      with_reducible refine Rd.seq (Rd.asg (Rd.call (Rd.cons (Rd.prop (Rd.var (by walk_at "vr") (⟨_, _, _, rfl, (by walk_at "hp"), ?_⟩))))))
      refine in_Scheme_wrap (fun cdv Ar outer s hr => ?_) rfl
      have hu := hu_of hr
      refine ⟨_, (pss_one (ps_ret (pe_dget hu (pe_fld (pv 0) rfl) pe_str (fun _ _ => rfl)))), ?_⟩
      try dsimp only [L2.cxOf, L2.Cx.nox, L2.Cx.wish]
      with_reducible refine Rd.ret (Rd.dget (Rd.fld (Rd.var (by walk_at "vr") (⟨_, _, _, _, _, rfl, (by walk_at "hp"), T.k_Scheme, T.n_Scheme_parts, (by walk_at "lk"), (Rd.c ?_)⟩))))
      refine Rd.dget2 (by walk_at "hp") (by walk_at "dl") ?_
      with_reducible refine Rd.cons (Rd.var (by walk_at "vr") (Rd.nil ?_))
      refine ⟨_, _, _, rfl, (by assumption), (by assumption), (by walk_at "sc"), (by walk_at "sc"), ?_⟩
      with_reducible refine Rd.name (Rd.seq (Rd.ifS (Rd.test (Rd.op (Rd.var (by walk_at "vr") (Rd.c (Rd.i0 (Rd.bl (Rd.iteT (by walk_at "bT") ?_)))))))))
      exact k _ (Same.refl _)
    · skip
      refine ⟨_, (pss_cons (ps_expr (pe_call (ok_check_size T) (hr.mono (by decide)) (by rfl) T.m_check_size T.F_check_size.kp T.b_check_size .nil (passes_call (takes_of rfl rfl rfl rfl) fun _ _ _ _ h => h) (pa_cons (pv 1) pa_nil)))
      (pss_cons ps_never (pss_cons ps_never (pss_one ps_never)))), ?_⟩
      try dsimp only [L2.cxOf, L2.Cx.nox, L2.Cx.wish]
      with_reducible refine Rd.seq (Rd.drop (Rd.call (Rd.cons (Rd.var (by walk_at "vr") (Rd.nil ?_)))))
      refine ⟨_, rfl, .inr (.inl ⟨_, rfl, (by walk_at "sc"), k _ (Same.refl _)⟩)⟩
    · skip
      refine ⟨_, (pss_cons (ps_expr (pe_call (ok_check_size T) (hr.mono (by decide)) (by rfl) T.m_check_size T.F_check_size.kp T.b_check_size .nil (passes_call (takes_of rfl rfl rfl rfl) fun _ _ _ _ h => h) (pa_cons (pv 1) pa_nil)))
      (pss_cons ps_never (pss_cons ps_never (pss_one ps_never)))), ?_⟩
      try dsimp only [L2.cxOf, L2.Cx.nox, L2.Cx.wish]
      with_reducible refine Rd.seq (Rd.drop (Rd.call (Rd.cons (Rd.var (by walk_at "vr") (Rd.nil ?_)))))
      refine ⟨_, rfl, .inr (.inr (.inl ⟨_, rfl, (by walk_at "sc"), (by walk_at "sc"), k _ (Same.refl _)⟩))⟩
    · skip
      refine ⟨_, (pss_cons (ps_expr (pe_call (ok_check_size T) (hr.mono (by decide)) (by rfl) T.m_check_size T.F_check_size.kp T.b_check_size .nil (passes_call (takes_of rfl rfl rfl rfl) fun _ _ _ _ h => h) (pa_cons (pv 1) pa_nil)))
      (pss_cons ps_never (pss_cons ps_never (pss_one ps_never)))), ?_⟩
      try dsimp only [L2.cxOf, L2.Cx.nox, L2.Cx.wish]
      with_reducible refine Rd.seq (Rd.drop (Rd.call (Rd.cons (Rd.var (by walk_at "vr") (Rd.nil ?_)))))
      refine ⟨_, rfl, .inr (.inr (.inr ⟨hb, k _ (Same.refl _)⟩))⟩
/-! Belief.__init__ -/
theorem sc_Beliefu__initu_ : FnScope ["self", "lag", "modulus", "n"] ["self", "lag", "modulus", "n"] (defScope s_Beliefu__initu_) := ⟨rfl, rfl, rfl, by decide +kernel, rfl, by decide +kernel, by decide +kernel⟩
abbrev sp_Beliefu__initu_ (K : PySem.W.Frag) (A : Adr) : Sp := fun vs H Q _ => ∃ (p dx : Addr) (l M n : Int), vs = [.ref p, .int l, .int M, .int n] ∧ H p = some (.ins A.c_Belief dx []) ∧ Q .non (upd H p (.ins A.c_Belief dx (fB l M n)))
theorem ok_Beliefu__initu_ (T : Txt w K mg A) : FnOk P w K mg base CX0 1 A.f_Beliefu__initu_ A.d_Beliefu__initu_ ["self", "lag", "modulus", "n"] (sp_Beliefu__initu_ K A) := by
  refine T.F_Beliefu__initu_.ok sc_Beliefu__initu_ (fun vs H Q E h => ?_) (fun cdv Ar outer s H vs Q E hr h => ?_)
  · obtain ⟨p, dx, l, M, n, rfl, hp, k⟩ := h
    rfl
  · obtain ⟨p, dx, l, M, n, rfl, hp, k⟩ := h
    have hu := hu_of hr
    have t_q_PART_NAMES := T.q_PART_NAMES
    have t_q_PART_WORDS_slot := T.q_PART_WORDS_slot
    have t_d_PART_WORDS_slot := T.d_PART_WORDS_slot
    have t_q_PART_WORDS_empty := T.q_PART_WORDS_empty
    have t_d_PART_WORDS_empty := T.d_PART_WORDS_empty
    have t_q_PART_WORDS_when := T.q_PART_WORDS_when
    have t_d_PART_WORDS_when := T.d_PART_WORDS_when
    have t_q_MEASURES := T.q_MEASURES
    have t_q_SIGNS := T.q_SIGNS
    have t_q_PLAIN_FULLS := T.q_PLAIN_FULLS
    have t_i_Form := T.i_Form
    have t_kt_Form_Form := T.kt_Form_Form
    have t_kt_int_Form := T.kt_int_Form
    have t_i_SizeSet := T.i_SizeSet
    have t_kt_SizeSet_SizeSet := T.kt_SizeSet_SizeSet
    have t_kt_tuple_SizeSet := T.kt_tuple_SizeSet
    have t_nf_Form_Form := T.nf_Form_Form
    have t_nf_int_Form := T.nf_int_Form
    have t_nf_SizeSet_SizeSet := T.nf_SizeSet_SizeSet
    have t_nf_tuple_SizeSet := T.nf_tuple_SizeSet
    have t_xm_NoSize_NoSize := T.xm_NoSize_NoSize
    have t_xm_NoRing_NoSize := T.xm_NoRing_NoSize
    have t_xm_NoRing_NoRing := T.xm_NoRing_NoRing
    have t_xm_NotDecided_NoSize := T.xm_NotDecided_NoSize
    have t_xm_NotDecided_NoRing := T.xm_NotDecided_NoRing
    have t_xm_NotDecided_NotDecided := T.xm_NotDecided_NotDecided
    have t_xm_NoLag_NoSize := T.xm_NoLag_NoSize
    have t_xm_NoLag_NoRing := T.xm_NoLag_NoRing
    have t_xm_NoLag_NotDecided := T.xm_NoLag_NotDecided
    have t_xm_NoLag_NoLag := T.xm_NoLag_NoLag
    have t_xm_TooLong_TooLong := T.xm_TooLong_TooLong
    have t_k_Form := T.k_Form
    have t_k_Scheme := T.k_Scheme
    have t_k_Belief := T.k_Belief
    have t_k_SizeSet := T.k_SizeSet
    refine ⟨_, (pss_cons (ps_fld (pv 0) (pv 1) rfl)
      (pss_cons (ps_fld (pv 0) (pv 2) rfl)
      (pss_one (ps_fld (pv 0) (pv 3) rfl)))), ?_⟩
    try dsimp only [L2.cxOf, L2.Cx.nox, L2.Cx.wish]
    with_reducible refine Rd.seq (Rd.sfld (Rd.var (by walk_at "vr") (Rd.var (by walk_at "vr") (⟨_, _, _, _, rfl, (by walk_at "hp"), T.k_Belief, T.n_Belief_lag, (by walk_at "sfl"), (Rd.seq (Rd.sfld (Rd.var (by walk_at "vr") (Rd.var (by walk_at "vr") (⟨_, _, _, _, rfl, (by walk_at "hp"), T.k_Belief, T.n_Belief_modulus, (by walk_at "sfl"), (Rd.sfld (Rd.var (by walk_at "vr") ?_))⟩)))))⟩))))
    with_reducible refine Rd.var (by walk_at "vr") (⟨_, _, _, _, rfl, (by walk_at "hp"), T.k_Belief, T.n_Belief_n, (by walk_at "sfl"), ?_⟩)
    (repeat rw [L2.upd_upd])
    rw [fB_put]
    exact k
/-! Belief.believed -/
theorem sc_Belief_believed : FnScope ["self"] ["self"] (defScope s_Belief_believed) := ⟨rfl, rfl, rfl, by decide +kernel, rfl, by decide +kernel, by decide +kernel⟩
abbrev sp_Belief_believed (K : PySem.W.Frag) (A : Adr) : Sp := fun vs H Q _ => ∃ (p dx : Addr) (l M n : Int), vs = [.ref p] ∧ H p = some (.ins A.c_Belief dx (fB l M n)) ∧ 0 ≤ l ∧ 1 ≤ M ∧ Q (.int (l % M)) H
theorem ok_Belief_believed (T : Txt w K mg A) : FnOk P w K mg base CX0 1 A.f_Belief_believed A.d_Belief_believed ["self"] (sp_Belief_believed K A) := by
  refine T.F_Belief_believed.ok sc_Belief_believed (fun vs H Q E h => ?_) (fun cdv Ar outer s H vs Q E hr h => ?_)
  · obtain ⟨p, dx, l, M, n, rfl, hp, l0, M1, k⟩ := h
    rfl
  · obtain ⟨p, dx, l, M, n, rfl, hp, l0, M1, k⟩ := h
    have hu := hu_of hr
    have t_q_PART_NAMES := T.q_PART_NAMES
    have t_q_PART_WORDS_slot := T.q_PART_WORDS_slot
    have t_d_PART_WORDS_slot := T.d_PART_WORDS_slot
    have t_q_PART_WORDS_empty := T.q_PART_WORDS_empty
    have t_d_PART_WORDS_empty := T.d_PART_WORDS_empty
    have t_q_PART_WORDS_when := T.q_PART_WORDS_when
    have t_d_PART_WORDS_when := T.d_PART_WORDS_when
    have t_q_MEASURES := T.q_MEASURES
    have t_q_SIGNS := T.q_SIGNS
    have t_q_PLAIN_FULLS := T.q_PLAIN_FULLS
    have t_i_Form := T.i_Form
    have t_kt_Form_Form := T.kt_Form_Form
    have t_kt_int_Form := T.kt_int_Form
    have t_i_SizeSet := T.i_SizeSet
    have t_kt_SizeSet_SizeSet := T.kt_SizeSet_SizeSet
    have t_kt_tuple_SizeSet := T.kt_tuple_SizeSet
    have t_nf_Form_Form := T.nf_Form_Form
    have t_nf_int_Form := T.nf_int_Form
    have t_nf_SizeSet_SizeSet := T.nf_SizeSet_SizeSet
    have t_nf_tuple_SizeSet := T.nf_tuple_SizeSet
    have t_xm_NoSize_NoSize := T.xm_NoSize_NoSize
    have t_xm_NoRing_NoSize := T.xm_NoRing_NoSize
    have t_xm_NoRing_NoRing := T.xm_NoRing_NoRing
    have t_xm_NotDecided_NoSize := T.xm_NotDecided_NoSize
    have t_xm_NotDecided_NoRing := T.xm_NotDecided_NoRing
    have t_xm_NotDecided_NotDecided := T.xm_NotDecided_NotDecided
    have t_xm_NoLag_NoSize := T.xm_NoLag_NoSize
    have t_xm_NoLag_NoRing := T.xm_NoLag_NoRing
    have t_xm_NoLag_NotDecided := T.xm_NoLag_NotDecided
    have t_xm_NoLag_NoLag := T.xm_NoLag_NoLag
    have t_xm_TooLong_TooLong := T.xm_TooLong_TooLong
    have t_k_Form := T.k_Form
    have t_k_Scheme := T.k_Scheme
    have t_k_Belief := T.k_Belief
    have t_k_SizeSet := T.k_SizeSet
    refine ⟨_, (pss_one (ps_ret (pe_op op_mod (pe_fld (pv 0) rfl) (pe_fld (pv 0) rfl)))), ?_⟩
    try dsimp only [L2.cxOf, L2.Cx.nox, L2.Cx.wish]
    with_reducible refine Rd.ret (Rd.op (Rd.fld (Rd.var (by walk_at "vr") (⟨_, _, _, _, _, rfl, (by walk_at "hp"), T.k_Belief, T.n_Belief_lag, (by walk_at "lk"), (Rd.fld (Rd.var (by walk_at "vr") (⟨_, _, _, _, _, rfl, (by walk_at "hp"), T.k_Belief, T.n_Belief_modulus, (by walk_at "lk"), (Rd.iC (by walk_at "sc") ?_)⟩)))⟩))))
    exact k
/-! Belief.number_right -/
theorem sc_Belief_number_right : FnScope ["self"] ["self"] (defScope s_Belief_number_right) := ⟨rfl, rfl, rfl, by decide +kernel, rfl, by decide +kernel, by decide +kernel⟩
abbrev sp_Belief_number_right (K : PySem.W.Frag) (A : Adr) : Sp := fun vs H Q _ => ∃ (p dx : Addr) (l M n : Int), vs = [.ref p] ∧ H p = some (.ins A.c_Belief dx (fB l M n)) ∧ 0 ≤ l ∧ 1 ≤ M ∧ Q (.bl (decide (l < M))) H
theorem ok_Belief_number_right (T : Txt w K mg A) : FnOk P w K mg base CX0 3 A.f_Belief_number_right A.d_Belief_number_right ["self"] (sp_Belief_number_right K A) := by
  refine T.F_Belief_number_right.ok sc_Belief_number_right (fun vs H Q E h => ?_) (fun cdv Ar outer s H vs Q E hr h => ?_)
  · obtain ⟨p, dx, l, M, n, rfl, hp, l0, M1, k⟩ := h
    rfl
  · obtain ⟨p, dx, l, M, n, rfl, hp, l0, M1, k⟩ := h
    have hu := hu_of hr
    have t_q_PART_NAMES := T.q_PART_NAMES
    have t_q_PART_WORDS_slot := T.q_PART_WORDS_slot
    have t_d_PART_WORDS_slot := T.d_PART_WORDS_slot
    have t_q_PART_WORDS_empty := T.q_PART_WORDS_empty
    have t_d_PART_WORDS_empty := T.d_PART_WORDS_empty
    have t_q_PART_WORDS_when := T.q_PART_WORDS_when
    have t_d_PART_WORDS_when := T.d_PART_WORDS_when
    have t_q_MEASURES := T.q_MEASURES
    have t_q_SIGNS := T.q_SIGNS
    have t_q_PLAIN_FULLS := T.q_PLAIN_FULLS
    have t_i_Form := T.i_Form
    have t_kt_Form_Form := T.kt_Form_Form
    have t_kt_int_Form := T.kt_int_Form
    have t_i_SizeSet := T.i_SizeSet
    have t_kt_SizeSet_SizeSet := T.kt_SizeSet_SizeSet
    have t_kt_tuple_SizeSet := T.kt_tuple_SizeSet
    have t_nf_Form_Form := T.nf_Form_Form
    have t_nf_int_Form := T.nf_int_Form
    have t_nf_SizeSet_SizeSet := T.nf_SizeSet_SizeSet
    have t_nf_tuple_SizeSet := T.nf_tuple_SizeSet
    have t_xm_NoSize_NoSize := T.xm_NoSize_NoSize
    have t_xm_NoRing_NoSize := T.xm_NoRing_NoSize
    have t_xm_NoRing_NoRing := T.xm_NoRing_NoRing
    have t_xm_NotDecided_NoSize := T.xm_NotDecided_NoSize
    have t_xm_NotDecided_NoRing := T.xm_NotDecided_NoRing
    have t_xm_NotDecided_NotDecided := T.xm_NotDecided_NotDecided
    have t_xm_NoLag_NoSize := T.xm_NoLag_NoSize
    have t_xm_NoLag_NoRing := T.xm_NoLag_NoRing
    have t_xm_NoLag_NotDecided := T.xm_NoLag_NotDecided
    have t_xm_NoLag_NoLag := T.xm_NoLag_NoLag
    have t_xm_TooLong_TooLong := T.xm_TooLong_TooLong
    have t_k_Form := T.k_Form
    have t_k_Scheme := T.k_Scheme
    have t_k_Belief := T.k_Belief
    have t_k_SizeSet := T.k_SizeSet
    refine ⟨_, (pss_one (ps_ret (pe_cmpR op_eq (pe_prop (pv 0) T.k_Belief T.R_Belief_believed (ok_Belief_believed T) (hr.mono (by decide)) T.b_Belief_believed .nil pass0 rfl) (pe_fld (pv 0) rfl) (nomark _)))), ?_⟩
    try dsimp only [L2.cxOf, L2.Cx.nox, L2.Cx.wish]
    with_reducible refine Rd.ret (Rd.op (Rd.prop (Rd.var (by walk_at "vr") (⟨_, _, _, rfl, (by walk_at "hp"), ?_⟩))))
    refine ⟨_, _, _, _, _, rfl, (by walk_at "hp"), (by walk_at "sc"), (by walk_at "sc"), ?_⟩
    with_reducible refine Rd.fld (Rd.var (by walk_at "vr") (⟨_, _, _, _, _, rfl, (by walk_at "hp"), T.k_Belief, T.n_Belief_lag, (by walk_at "lk"), (Rd.eqS (by walk_at "vr") ?_)⟩))
    rw [mod_self l0 M1]
    exact k
/-! Belief.place_right -/
theorem sc_Belief_place_right : FnScope ["self"] ["self"] (defScope s_Belief_place_right) := ⟨rfl, rfl, rfl, by decide +kernel, rfl, by decide +kernel, by decide +kernel⟩
abbrev sp_Belief_place_right (K : PySem.W.Frag) (A : Adr) : Sp := fun vs H Q _ => ∃ (p dx : Addr) (l M n : Int), vs = [.ref p] ∧ H p = some (.ins A.c_Belief dx (fB l M n)) ∧ 0 ≤ l ∧ 1 ≤ M ∧ Q (.bl (decide (l < M) || decide (n ≤ l % M))) H
theorem ok_Belief_place_right (T : Txt w K mg A) : FnOk P w K mg base CX0 5 A.f_Belief_place_right A.d_Belief_place_right ["self"] (sp_Belief_place_right K A) := by
  refine T.F_Belief_place_right.ok sc_Belief_place_right (fun vs H Q E h => ?_) (fun cdv Ar outer s H vs Q E hr h => ?_)
  · obtain ⟨p, dx, l, M, n, rfl, hp, l0, M1, k⟩ := h
    rfl
  · obtain ⟨p, dx, l, M, n, rfl, hp, l0, M1, k⟩ := h
    have hu := hu_of hr
    have t_q_PART_NAMES := T.q_PART_NAMES
    have t_q_PART_WORDS_slot := T.q_PART_WORDS_slot
    have t_d_PART_WORDS_slot := T.d_PART_WORDS_slot
    have t_q_PART_WORDS_empty := T.q_PART_WORDS_empty
    have t_d_PART_WORDS_empty := T.d_PART_WORDS_empty
    have t_q_PART_WORDS_when := T.q_PART_WORDS_when
    have t_d_PART_WORDS_when := T.d_PART_WORDS_when
    have t_q_MEASURES := T.q_MEASURES
    have t_q_SIGNS := T.q_SIGNS
    have t_q_PLAIN_FULLS := T.q_PLAIN_FULLS
    have t_i_Form := T.i_Form
    have t_kt_Form_Form := T.kt_Form_Form
    have t_kt_int_Form := T.kt_int_Form
    have t_i_SizeSet := T.i_SizeSet
    have t_kt_SizeSet_SizeSet := T.kt_SizeSet_SizeSet
    have t_kt_tuple_SizeSet := T.kt_tuple_SizeSet
    have t_nf_Form_Form := T.nf_Form_Form
    have t_nf_int_Form := T.nf_int_Form
    have t_nf_SizeSet_SizeSet := T.nf_SizeSet_SizeSet
    have t_nf_tuple_SizeSet := T.nf_tuple_SizeSet
    have t_xm_NoSize_NoSize := T.xm_NoSize_NoSize
    have t_xm_NoRing_NoSize := T.xm_NoRing_NoSize
    have t_xm_NoRing_NoRing := T.xm_NoRing_NoRing
    have t_xm_NotDecided_NoSize := T.xm_NotDecided_NoSize
    have t_xm_NotDecided_NoRing := T.xm_NotDecided_NoRing
    have t_xm_NotDecided_NotDecided := T.xm_NotDecided_NotDecided
    have t_xm_NoLag_NoSize := T.xm_NoLag_NoSize
    have t_xm_NoLag_NoRing := T.xm_NoLag_NoRing
    have t_xm_NoLag_NotDecided := T.xm_NoLag_NotDecided
    have t_xm_NoLag_NoLag := T.xm_NoLag_NoLag
    have t_xm_TooLong_TooLong := T.xm_TooLong_TooLong
    have t_k_Form := T.k_Form
    have t_k_Scheme := T.k_Scheme
    have t_k_Belief := T.k_Belief
    have t_k_SizeSet := T.k_SizeSet
    rcases (by omega : l < M ∨ ¬ l < M) with h | h
    · skip
      refine ⟨_, (pss_one (ps_ret (pe_or (pe_prop (pv 0) T.k_Belief T.R_Belief_number_right (ok_Belief_number_right T) (hr.mono (by decide)) T.b_Belief_number_right .nil pass0 rfl) (pe_one Rd.peN)))), ?_⟩
      try dsimp only [L2.cxOf, L2.Cx.nox, L2.Cx.wish]
      with_reducible refine Rd.ret (Rd.orV (Rd.prop (Rd.var (by walk_at "vr") (⟨_, _, _, rfl, (by walk_at "hp"), ?_⟩))))
      refine ⟨_, _, _, _, _, rfl, (by walk_at "hp"), (by walk_at "sc"), (by walk_at "sc"), ?_⟩
      with_reducible refine Rd.bl (Rd.iteT (by walk_at "bT") ?_)
      rw [decide_eq_true h, Bool.true_or] at k
      exact k
    · skip
      refine ⟨_, (pss_one (ps_ret (pe_or (pe_prop (pv 0) T.k_Belief T.R_Belief_number_right (ok_Belief_number_right T) (hr.mono (by decide)) T.b_Belief_number_right .nil pass0 rfl) (pe_one (pe_cmpR op_ge (pe_prop (pv 0) T.k_Belief T.R_Belief_believed (ok_Belief_believed T) (hr.mono (by decide)) T.b_Belief_believed .nil pass0 rfl) (pe_fld (pv 0) rfl) (nomark _)))))), ?_⟩
      try dsimp only [L2.cxOf, L2.Cx.nox, L2.Cx.wish]
      with_reducible refine Rd.ret (Rd.orV (Rd.prop (Rd.var (by walk_at "vr") (⟨_, _, _, rfl, (by walk_at "hp"), ?_⟩))))
      refine ⟨_, _, _, _, _, rfl, (by walk_at "hp"), (by walk_at "sc"), (by walk_at "sc"), ?_⟩
      with_reducible refine Rd.bl (Rd.iteF (by walk_at "bF") (Rd.op (Rd.prop (Rd.var (by walk_at "vr") (⟨_, _, _, rfl, (by walk_at "hp"), ?_⟩)))))
      refine ⟨_, _, _, _, _, rfl, (by walk_at "hp"), (by walk_at "sc"), (by walk_at "sc"), ?_⟩
      with_reducible refine Rd.fld (Rd.var (by walk_at "vr") (⟨_, _, _, _, _, rfl, (by walk_at "hp"), T.k_Belief, T.n_Belief_n, (by walk_at "lk"), (Rd.i0 ?_)⟩))
      rw [decide_eq_false h, Bool.false_or] at k
      exact k
/-! Belief.__bool__ -/
theorem sc_Beliefu__boolu_ : FnScope ["self"] ["self"] (defScope s_Beliefu__boolu_) := ⟨rfl, rfl, rfl, by decide +kernel, rfl, by decide +kernel, by decide +kernel⟩
abbrev sp_Beliefu__boolu_ (K : PySem.W.Frag) (A : Adr) : Sp := fun vs H Q _ => ∃ (p dx : Addr) (l M n : Int), vs = [.ref p] ∧ H p = some (.ins A.c_Belief dx (fB l M n)) ∧ 0 ≤ l ∧ 1 ≤ M ∧ Q (.bl (decide (l < M))) H
theorem ok_Beliefu__boolu_ (T : Txt w K mg A) : FnOk P w K mg base CX0 7 A.f_Beliefu__boolu_ A.d_Beliefu__boolu_ ["self"] (sp_Beliefu__boolu_ K A) := by
  refine T.F_Beliefu__boolu_.ok sc_Beliefu__boolu_ (fun vs H Q E h => ?_) (fun cdv Ar outer s H vs Q E hr h => ?_)
  · obtain ⟨p, dx, l, M, n, rfl, hp, l0, M1, k⟩ := h
    rfl
  · obtain ⟨p, dx, l, M, n, rfl, hp, l0, M1, k⟩ := h
    have hu := hu_of hr
    have t_q_PART_NAMES := T.q_PART_NAMES
    have t_q_PART_WORDS_slot := T.q_PART_WORDS_slot
    have t_d_PART_WORDS_slot := T.d_PART_WORDS_slot
    have t_q_PART_WORDS_empty := T.q_PART_WORDS_empty
    have t_d_PART_WORDS_empty := T.d_PART_WORDS_empty
    have t_q_PART_WORDS_when := T.q_PART_WORDS_when
    have t_d_PART_WORDS_when := T.d_PART_WORDS_when
    have t_q_MEASURES := T.q_MEASURES
    have t_q_SIGNS := T.q_SIGNS
    have t_q_PLAIN_FULLS := T.q_PLAIN_FULLS
    have t_i_Form := T.i_Form
    have t_kt_Form_Form := T.kt_Form_Form
    have t_kt_int_Form := T.kt_int_Form
    have t_i_SizeSet := T.i_SizeSet
    have t_kt_SizeSet_SizeSet := T.kt_SizeSet_SizeSet
    have t_kt_tuple_SizeSet := T.kt_tuple_SizeSet
    have t_nf_Form_Form := T.nf_Form_Form
    have t_nf_int_Form := T.nf_int_Form
    have t_nf_SizeSet_SizeSet := T.nf_SizeSet_SizeSet
    have t_nf_tuple_SizeSet := T.nf_tuple_SizeSet
    have t_xm_NoSize_NoSize := T.xm_NoSize_NoSize
    have t_xm_NoRing_NoSize := T.xm_NoRing_NoSize
    have t_xm_NoRing_NoRing := T.xm_NoRing_NoRing
    have t_xm_NotDecided_NoSize := T.xm_NotDecided_NoSize
    have t_xm_NotDecided_NoRing := T.xm_NotDecided_NoRing
    have t_xm_NotDecided_NotDecided := T.xm_NotDecided_NotDecided
    have t_xm_NoLag_NoSize := T.xm_NoLag_NoSize
    have t_xm_NoLag_NoRing := T.xm_NoLag_NoRing
    have t_xm_NoLag_NotDecided := T.xm_NoLag_NotDecided
    have t_xm_NoLag_NoLag := T.xm_NoLag_NoLag
    have t_xm_TooLong_TooLong := T.xm_TooLong_TooLong
    have t_k_Form := T.k_Form
    have t_k_Scheme := T.k_Scheme
    have t_k_Belief := T.k_Belief
    have t_k_SizeSet := T.k_SizeSet
    rcases (by omega : l < M ∨ ¬ l < M) with h | h
    · skip
      refine ⟨_, (pss_one (ps_ret (pe_callTy call_bool1 (by rfl) T.n_bool (by decide +kernel) (pa_cons (pe_and (pe_prop (pv 0) T.k_Belief T.R_Belief_number_right (ok_Belief_number_right T) (hr.mono (by decide)) T.b_Belief_number_right .nil pass0 rfl) (pe_one (pe_prop (pv 0) T.k_Belief T.R_Belief_place_right (ok_Belief_place_right T) (hr.mono (by decide)) T.b_Belief_place_right .nil pass0 rfl))) pa_nil)))), ?_⟩
      try dsimp only [L2.cxOf, L2.Cx.nox, L2.Cx.wish]
      with_reducible refine Rd.ret (Rd.cB (Rd.cons (Rd.andV (Rd.prop (Rd.var (by walk_at "vr") (⟨_, _, _, rfl, (by walk_at "hp"), ?_⟩))))))
      refine ⟨_, _, _, _, _, rfl, (by walk_at "hp"), (by walk_at "sc"), (by walk_at "sc"), ?_⟩
      with_reducible refine Rd.bl (Rd.iteT (by walk_at "bT") (Rd.prop (Rd.var (by walk_at "vr") (⟨_, _, _, rfl, (by walk_at "hp"), ?_⟩))))
      refine ⟨_, _, _, _, _, rfl, (by walk_at "hp"), (by walk_at "sc"), (by walk_at "sc"), ?_⟩
      with_reducible refine Rd.nil ((.inr ⟨_, rfl, ?_⟩))
      rw [decide_eq_true h, Bool.true_or]
      rw [decide_eq_true h] at k
      exact k
    · skip
      refine ⟨_, (pss_one (ps_ret (pe_callTy call_bool1 (by rfl) T.n_bool (by decide +kernel) (pa_cons (pe_and (pe_prop (pv 0) T.k_Belief T.R_Belief_number_right (ok_Belief_number_right T) (hr.mono (by decide)) T.b_Belief_number_right .nil pass0 rfl) (pe_one Rd.peN)) pa_nil)))), ?_⟩
      try dsimp only [L2.cxOf, L2.Cx.nox, L2.Cx.wish]
      with_reducible refine Rd.ret (Rd.cB (Rd.cons (Rd.andV (Rd.prop (Rd.var (by walk_at "vr") (⟨_, _, _, rfl, (by walk_at "hp"), ?_⟩))))))
      refine ⟨_, _, _, _, _, rfl, (by walk_at "hp"), (by walk_at "sc"), (by walk_at "sc"), ?_⟩
      with_reducible refine Rd.bl (Rd.iteF (by walk_at "bF") (Rd.nil ((.inr ⟨_, rfl, ?_⟩))))
      rw [decide_eq_false h] at k
      exact k
/-! Scheme.slot -/
theorem sc_Scheme_slot : FnScope ["self"] ["self"] (defScope s_Scheme_slot) := ⟨rfl, rfl, rfl, by decide +kernel, rfl, by decide +kernel, by decide +kernel⟩
def sp_Scheme_slot (P : Program) (w : World) (mg : Str → Option Value) (base : Heap) (K : PySem.W.Frag) (A : Adr) : Sp := fun vs H Q E => vs.length = 1 ∧ ∀ (cdv : Value) (Ar : Around) (outer : List Env) (s : Shared), Room 0 (Ar.deeper (PyProof.Rows.envOfC "Scheme.slot" (defScope s_Scheme_slot) s.heap.objs.size A.f_Scheme_slot cdv)) → ∃ t, PSs (cxOf CX0 P w K mg base ["self"] "Scheme.slot" (defScope s_Scheme_slot) A.f_Scheme_slot cdv Ar outer s H E).nox (defBody s_Scheme_slot) t ∧ t { nx := fun _ H' => Q .non H', rt := Q } (start ["self"] vs) H
theorem in_Scheme_slot {vs : List V} {H : Hp} {Q : VK} {E : XK} (h : ∀ (cdv : Value) (Ar : Around) (outer : List Env) (s : Shared), Room 0 (Ar.deeper (PyProof.Rows.envOfC "Scheme.slot" (defScope s_Scheme_slot) s.heap.objs.size A.f_Scheme_slot cdv)) → ∃ t, PSs (cxOf CX0 P w K mg base ["self"] "Scheme.slot" (defScope s_Scheme_slot) A.f_Scheme_slot cdv Ar outer s H E).nox (defBody s_Scheme_slot) t ∧ t { nx := fun _ H' => Q .non H', rt := Q } (start ["self"] vs) H) (e : vs.length = 1) : sp_Scheme_slot P w mg base K A vs H Q E := ⟨e, h⟩
theorem ok_Scheme_slot (T : Txt w K mg A) : FnOk P w K mg base CX0 1 A.f_Scheme_slot A.d_Scheme_slot ["self"] (sp_Scheme_slot P w mg base K A) := T.F_Scheme_slot.ok sc_Scheme_slot (fun _ _ _ _ h => h.1) (fun cdv Ar outer s H vs Q E hr h => h.2 cdv Ar outer s hr)
/-! Scheme.when -/
theorem sc_Scheme_when : FnScope ["self"] ["self"] (defScope s_Scheme_when) := ⟨rfl, rfl, rfl, by decide +kernel, rfl, by decide +kernel, by decide +kernel⟩
def sp_Scheme_when (P : Program) (w : World) (mg : Str → Option Value) (base : Heap) (K : PySem.W.Frag) (A : Adr) : Sp := fun vs H Q E => vs.length = 1 ∧ ∀ (cdv : Value) (Ar : Around) (outer : List Env) (s : Shared), Room 0 (Ar.deeper (PyProof.Rows.envOfC "Scheme.when" (defScope s_Scheme_when) s.heap.objs.size A.f_Scheme_when cdv)) → ∃ t, PSs (cxOf CX0 P w K mg base ["self"] "Scheme.when" (defScope s_Scheme_when) A.f_Scheme_when cdv Ar outer s H E).nox (defBody s_Scheme_when) t ∧ t { nx := fun _ H' => Q .non H', rt := Q } (start ["self"] vs) H
theorem in_Scheme_when {vs : List V} {H : Hp} {Q : VK} {E : XK} (h : ∀ (cdv : Value) (Ar : Around) (outer : List Env) (s : Shared), Room 0 (Ar.deeper (PyProof.Rows.envOfC "Scheme.when" (defScope s_Scheme_when) s.heap.objs.size A.f_Scheme_when cdv)) → ∃ t, PSs (cxOf CX0 P w K mg base ["self"] "Scheme.when" (defScope s_Scheme_when) A.f_Scheme_when cdv Ar outer s H E).nox (defBody s_Scheme_when) t ∧ t { nx := fun _ H' => Q .non H', rt := Q } (start ["self"] vs) H) (e : vs.length = 1) : sp_Scheme_when P w mg base K A vs H Q E := ⟨e, h⟩
theorem ok_Scheme_when (T : Txt w K mg A) : FnOk P w K mg base CX0 1 A.f_Scheme_when A.d_Scheme_when ["self"] (sp_Scheme_when P w mg base K A) := T.F_Scheme_when.ok sc_Scheme_when (fun _ _ _ _ h => h.1) (fun cdv Ar outer s H vs Q E hr h => h.2 cdv Ar outer s hr)
/-! log_modulus -/
theorem sc_log_modulus : FnScope ["scheme", "n", "modulus"] ["scheme", "n"] (defScope s_log_modulus) := ⟨rfl, rfl, rfl, by decide +kernel, rfl, by decide +kernel, by decide +kernel⟩
theorem st_log_modulus {v0 v1 : V} : L2.start ["scheme", "n", "modulus"] [v0, v1] = [some v0, some v1, none] := rfl
abbrev sp_log_modulus (K : PySem.W.Frag) (A : Adr) : Sp := fun vs H Q E => ∃ (p : Addr) (t : Pt) (y : V), vs = [.ref p, y] ∧ IsScheme A H p t ∧ Wf t ∧ ((y = .int 0 ∧ ∀ H1, Same H H1 → E (.ref A.c_NoSize) none H1) ∨ ∃ n : Int, y = .int n ∧ 1 ≤ n ∧ n ≤ 1000000000000000000000000000000 ∧ ((modV t.wrap n < 1 ∧ ∀ H1, Same H H1 → E (.ref A.c_NoRing) none H1) ∨ (1 ≤ modV t.wrap n ∧ ((¬ LogOk t n ∧ ∀ H1, Same H H1 → E (.ref A.c_NotDecided) none H1) ∨ (LogOk t n ∧ Q (.int (modV t.wrap n)) H)))))
theorem ok_log_modulus (T : Txt w K mg A) : FnOk P w K mg base (L2.CX P w) 6 A.f_log_modulus A.d_log_modulus ["scheme", "n"] (sp_log_modulus K A) := by
  refine T.F_log_modulus.okX sc_log_modulus (fun vs H Q E h => ?_) (fun cdv Ar outer s H vs Q E hr h => ?_)
  · obtain ⟨p, t, y, rfl, hsch, wf, hy⟩ := h
    rfl
  · obtain ⟨p, t, y, rfl, hsch, wf, hy⟩ := h
    have hu := hu_of hr
    have t_q_PART_NAMES := T.q_PART_NAMES
    have t_q_PART_WORDS_slot := T.q_PART_WORDS_slot
    have t_d_PART_WORDS_slot := T.d_PART_WORDS_slot
    have t_q_PART_WORDS_empty := T.q_PART_WORDS_empty
    have t_d_PART_WORDS_empty := T.d_PART_WORDS_empty
    have t_q_PART_WORDS_when := T.q_PART_WORDS_when
    have t_d_PART_WORDS_when := T.d_PART_WORDS_when
    have t_q_MEASURES := T.q_MEASURES
    have t_q_SIGNS := T.q_SIGNS
    have t_q_PLAIN_FULLS := T.q_PLAIN_FULLS
    have t_i_Form := T.i_Form
    have t_kt_Form_Form := T.kt_Form_Form
    have t_kt_int_Form := T.kt_int_Form
    have t_i_SizeSet := T.i_SizeSet
    have t_kt_SizeSet_SizeSet := T.kt_SizeSet_SizeSet
    have t_kt_tuple_SizeSet := T.kt_tuple_SizeSet
    have t_nf_Form_Form := T.nf_Form_Form
    have t_nf_int_Form := T.nf_int_Form
    have t_nf_SizeSet_SizeSet := T.nf_SizeSet_SizeSet
    have t_nf_tuple_SizeSet := T.nf_tuple_SizeSet
    have t_xm_NoSize_NoSize := T.xm_NoSize_NoSize
    have t_xm_NoRing_NoSize := T.xm_NoRing_NoSize
    have t_xm_NoRing_NoRing := T.xm_NoRing_NoRing
    have t_xm_NotDecided_NoSize := T.xm_NotDecided_NoSize
    have t_xm_NotDecided_NoRing := T.xm_NotDecided_NoRing
    have t_xm_NotDecided_NotDecided := T.xm_NotDecided_NotDecided
    have t_xm_NoLag_NoSize := T.xm_NoLag_NoSize
    have t_xm_NoLag_NoRing := T.xm_NoLag_NoRing
    have t_xm_NoLag_NotDecided := T.xm_NoLag_NotDecided
    have t_xm_NoLag_NoLag := T.xm_NoLag_NoLag
    have t_xm_TooLong_TooLong := T.xm_TooLong_TooLong
    have t_k_Form := T.k_Form
    have t_k_Scheme := T.k_Scheme
    have t_k_Belief := T.k_Belief
    have t_k_SizeSet := T.k_SizeSet
    have wfw := wf.w
    have hsch0 := hsch
    obtain ⟨dx, d, vw, vf, hp, hd, hw, hfl⟩ := hsch
    rcases hy with ⟨rfl, k⟩ | ⟨n, rfl, n1, n2, ⟨hm, k⟩ | ⟨hm, ⟨hl, k⟩ | ⟨⟨hl1, hl2, hl3⟩, k⟩⟩⟩
    rotate_left 2
    rcases Decidable.em (t.wen = "over") with g1 | g1
    rcases Decidable.em (modV t.wrap n % n = 0) with g2 | g2
    have g3 : t.slot = "off" ∧ 2 * n < modV t.wrap n := Decidable.byContradiction fun z => hl ⟨g1, g2, z⟩
    · skip
      refine ⟨_, (pss_cons (ps_set (i := 2) sc_log_modulus.nd rfl (Or.inl rfl) (pe_call (ok_modulus_of T) (hr.mono (by decide)) (by rfl) T.m_modulus_of T.F_modulus_of.kp T.b_modulus_of .nil (passes_call (takes_of rfl rfl rfl rfl) fun _ _ _ _ h => h) (pa_cons (pv 0) (pa_cons (pv 1) pa_nil))))
      (pss_cons (ps_if (pt_cmpR op_ne (pe_prop (pv 0) T.k_Scheme T.R_Scheme_when (ok_Scheme_when T) (hr.mono (by decide)) T.b_Scheme_when .nil pass0 rfl) pe_str (nomark _)) (pss_one ps_never) pss_nil)
      (pss_cons (ps_if (PW.pt (pw_or (pt_cmpR op_ne (pe_op op_mod (pv 2) (pv 1)) pe_int (nomark _)) (pw_or1 (pt_val (pe_call (ok_has_outside T) (hr.mono (by decide)) (by rfl) T.m_has_outside T.F_has_outside.kp T.b_has_outside .nil pass0 (pa_cons (pe_prop (pv 0) T.k_Scheme T.R_Scheme_slot (ok_Scheme_slot T) (hr.mono (by decide)) T.b_Scheme_slot .nil pass0 rfl) (pa_cons (pv 1) (pa_cons (pv 2) pa_nil)))))))) (pss_one (ps_raise rfl (takes_of rfl rfl rfl rfl) (pmk_own PySem.F.excBase_ValueError T.x_NotDecided T.m_NotDecided T.kp_NotDecided (raises_own T.sb_NotDecided T.tc_NotDecided) rfl))) pss_nil)
      (pss_one ps_never)))), ?_⟩
      try dsimp only [L2.cxOf, L2.Cx.nox, L2.Cx.wish]
      try rw [st_log_modulus]
      with_reducible refine Rd.seq (Rd.asg (Rd.call (Rd.cons (Rd.var (by walk_at "vr") (Rd.cons (Rd.var (by walk_at "vr") (Rd.nil ?_)))))))
      refine ⟨_, _, _, rfl, (by assumption), wfw, .inl ⟨_, rfl, n1, n2, .inl ⟨hm, ?_⟩⟩⟩
      with_reducible refine Rd.name ?_
      try dsimp only [Int.reduceToNat, List.set]
      with_reducible refine Rd.seq (Rd.ifS (Rd.test (Rd.op (Rd.prop (Rd.var (by walk_at "vr") (⟨_, _, _, rfl, (by walk_at "hp"), ?_⟩))))))
      refine in_Scheme_when (fun cdv Ar outer s hr => ?_) rfl
      have hu := hu_of hr
      refine ⟨_, (pss_one (ps_ret (pe_dget hu (pe_fld (pv 0) rfl) pe_str (fun _ _ => rfl)))), ?_⟩
      try dsimp only [L2.cxOf, L2.Cx.nox, L2.Cx.wish]
      with_reducible refine Rd.ret (Rd.dget (Rd.fld (Rd.var (by walk_at "vr") (⟨_, _, _, _, _, rfl, (by walk_at "hp"), T.k_Scheme, T.n_Scheme_parts, (by walk_at "lk"), (Rd.c ?_)⟩))))
      refine Rd.dget2 (by walk_at "hp") (by walk_at "dl") ?_
      with_reducible refine Rd.c (Rd.neS (by walk_at "vr") (Rd.bl (Rd.iteF (by walk_at "bF") (Rd.next (Rd.seq (Rd.ifS (Rd.or (Rd.test (Rd.op (Rd.op (Rd.var (by walk_at "vr") ?_)))))))))))
      with_reducible refine Rd.var (by walk_at "vr") (Rd.iC (by walk_at "sc") (Rd.c (Rd.neS (by walk_at "vr") (Rd.bl (Rd.iteF (by walk_at "bF") (Rd.tb (Rd.call (Rd.cons (Rd.prop (Rd.var (by walk_at "vr") (⟨_, _, _, rfl, (by walk_at "hp"), ?_⟩)))))))))))
      refine in_Scheme_slot (fun cdv Ar outer s hr => ?_) rfl
      have hu := hu_of hr
      refine ⟨_, (pss_one (ps_ret (pe_dget hu (pe_fld (pv 0) rfl) pe_str (fun _ _ => rfl)))), ?_⟩
      try dsimp only [L2.cxOf, L2.Cx.nox, L2.Cx.wish]
      with_reducible refine Rd.ret (Rd.dget (Rd.fld (Rd.var (by walk_at "vr") (⟨_, _, _, _, _, rfl, (by walk_at "hp"), T.k_Scheme, T.n_Scheme_parts, (by walk_at "lk"), (Rd.c ?_)⟩))))
      refine Rd.dget2 (by walk_at "hp") (by walk_at "dl") ?_
      with_reducible refine Rd.cons (Rd.var (by walk_at "vr") (Rd.cons (Rd.var (by walk_at "vr") (Rd.nil ?_))))
      refine ⟨_, _, _, rfl, n1, n2, ?_⟩
      with_reducible refine Rd.bl (Rd.iteT (by walk_at "bT") ?_)
      exact k _ (by walk_at "frm")
    · skip
      refine ⟨_, (pss_cons (ps_set (i := 2) sc_log_modulus.nd rfl (Or.inl rfl) (pe_call (ok_modulus_of T) (hr.mono (by decide)) (by rfl) T.m_modulus_of T.F_modulus_of.kp T.b_modulus_of .nil (passes_call (takes_of rfl rfl rfl rfl) fun _ _ _ _ h => h) (pa_cons (pv 0) (pa_cons (pv 1) pa_nil))))
      (pss_cons (ps_if (pt_cmpR op_ne (pe_prop (pv 0) T.k_Scheme T.R_Scheme_when (ok_Scheme_when T) (hr.mono (by decide)) T.b_Scheme_when .nil pass0 rfl) pe_str (nomark _)) (pss_one ps_never) pss_nil)
      (pss_cons (ps_if (PW.pt (pw_or (pt_cmpR op_ne (pe_op op_mod (pv 2) (pv 1)) pe_int (nomark _)) (pw_or1 Rd.ptN))) (pss_one (ps_raise rfl (takes_of rfl rfl rfl rfl) (pmk_own PySem.F.excBase_ValueError T.x_NotDecided T.m_NotDecided T.kp_NotDecided (raises_own T.sb_NotDecided T.tc_NotDecided) rfl))) pss_nil)
      (pss_one ps_never)))), ?_⟩
      try dsimp only [L2.cxOf, L2.Cx.nox, L2.Cx.wish]
      try rw [st_log_modulus]
      with_reducible refine Rd.seq (Rd.asg (Rd.call (Rd.cons (Rd.var (by walk_at "vr") (Rd.cons (Rd.var (by walk_at "vr") (Rd.nil ?_)))))))
      refine ⟨_, _, _, rfl, (by assumption), wfw, .inl ⟨_, rfl, n1, n2, .inl ⟨hm, ?_⟩⟩⟩
      with_reducible refine Rd.name ?_
      try dsimp only [Int.reduceToNat, List.set]
      with_reducible refine Rd.seq (Rd.ifS (Rd.test (Rd.op (Rd.prop (Rd.var (by walk_at "vr") (⟨_, _, _, rfl, (by walk_at "hp"), ?_⟩))))))
      refine in_Scheme_when (fun cdv Ar outer s hr => ?_) rfl
      have hu := hu_of hr
      refine ⟨_, (pss_one (ps_ret (pe_dget hu (pe_fld (pv 0) rfl) pe_str (fun _ _ => rfl)))), ?_⟩
      try dsimp only [L2.cxOf, L2.Cx.nox, L2.Cx.wish]
      with_reducible refine Rd.ret (Rd.dget (Rd.fld (Rd.var (by walk_at "vr") (⟨_, _, _, _, _, rfl, (by walk_at "hp"), T.k_Scheme, T.n_Scheme_parts, (by walk_at "lk"), (Rd.c ?_)⟩))))
      refine Rd.dget2 (by walk_at "hp") (by walk_at "dl") ?_
      with_reducible refine Rd.c (Rd.neS (by walk_at "vr") (Rd.bl (Rd.iteF (by walk_at "bF") (Rd.next (Rd.seq (Rd.ifS (Rd.or (Rd.test (Rd.op (Rd.op (Rd.var (by walk_at "vr") ?_)))))))))))
      with_reducible refine Rd.var (by walk_at "vr") (Rd.iC (by walk_at "sc") (Rd.c (Rd.neS (by walk_at "vr") (Rd.bl (Rd.iteT (by walk_at "bT") (Rd.iteT rfl ?_))))))
      exact k _ (by walk_at "frm")
    · skip
      refine ⟨_, (pss_cons (ps_set (i := 2) sc_log_modulus.nd rfl (Or.inl rfl) (pe_call (ok_modulus_of T) (hr.mono (by decide)) (by rfl) T.m_modulus_of T.F_modulus_of.kp T.b_modulus_of .nil (passes_call (takes_of rfl rfl rfl rfl) fun _ _ _ _ h => h) (pa_cons (pv 0) (pa_cons (pv 1) pa_nil))))
      (pss_cons (ps_if (pt_cmpR op_ne (pe_prop (pv 0) T.k_Scheme T.R_Scheme_when (ok_Scheme_when T) (hr.mono (by decide)) T.b_Scheme_when .nil pass0 rfl) pe_str (nomark _)) (pss_one (ps_raise rfl (takes_of rfl rfl rfl rfl) (pmk_own PySem.F.excBase_ValueError T.x_NotDecided T.m_NotDecided T.kp_NotDecided (raises_own T.sb_NotDecided T.tc_NotDecided) rfl))) pss_nil)
      (pss_cons ps_never (pss_one ps_never)))), ?_⟩
      try dsimp only [L2.cxOf, L2.Cx.nox, L2.Cx.wish]
      try rw [st_log_modulus]
      with_reducible refine Rd.seq (Rd.asg (Rd.call (Rd.cons (Rd.var (by walk_at "vr") (Rd.cons (Rd.var (by walk_at "vr") (Rd.nil ?_)))))))
      refine ⟨_, _, _, rfl, (by assumption), wfw, .inl ⟨_, rfl, n1, n2, .inl ⟨hm, ?_⟩⟩⟩
      with_reducible refine Rd.name ?_
      try dsimp only [Int.reduceToNat, List.set]
      with_reducible refine Rd.seq (Rd.ifS (Rd.test (Rd.op (Rd.prop (Rd.var (by walk_at "vr") (⟨_, _, _, rfl, (by walk_at "hp"), ?_⟩))))))
      refine in_Scheme_when (fun cdv Ar outer s hr => ?_) rfl
      have hu := hu_of hr
      refine ⟨_, (pss_one (ps_ret (pe_dget hu (pe_fld (pv 0) rfl) pe_str (fun _ _ => rfl)))), ?_⟩
      try dsimp only [L2.cxOf, L2.Cx.nox, L2.Cx.wish]
      with_reducible refine Rd.ret (Rd.dget (Rd.fld (Rd.var (by walk_at "vr") (⟨_, _, _, _, _, rfl, (by walk_at "hp"), T.k_Scheme, T.n_Scheme_parts, (by walk_at "lk"), (Rd.c ?_)⟩))))
      refine Rd.dget2 (by walk_at "hp") (by walk_at "dl") ?_
      with_reducible refine Rd.c (Rd.neS (by walk_at "vr") (Rd.bl (Rd.iteT (by walk_at "bT") ?_)))
      exact k _ (by walk_at "frm")
    · skip
      refine ⟨_, (pss_cons (ps_set (i := 2) sc_log_modulus.nd rfl (Or.inl rfl) (pe_call (ok_modulus_of T) (hr.mono (by decide)) (by rfl) T.m_modulus_of T.F_modulus_of.kp T.b_modulus_of .nil (passes_call (takes_of rfl rfl rfl rfl) fun _ _ _ _ h => h) (pa_cons (pv 0) (pa_cons (pv 1) pa_nil))))
      (pss_cons (ps_if (pt_cmpR op_ne (pe_prop (pv 0) T.k_Scheme T.R_Scheme_when (ok_Scheme_when T) (hr.mono (by decide)) T.b_Scheme_when .nil pass0 rfl) pe_str (nomark _)) (pss_one ps_never) pss_nil)
      (pss_cons (ps_if (PW.pt (pw_or (pt_cmpR op_ne (pe_op op_mod (pv 2) (pv 1)) pe_int (nomark _)) (pw_or1 (pt_val (pe_call (ok_has_outside T) (hr.mono (by decide)) (by rfl) T.m_has_outside T.F_has_outside.kp T.b_has_outside .nil pass0 (pa_cons (pe_prop (pv 0) T.k_Scheme T.R_Scheme_slot (ok_Scheme_slot T) (hr.mono (by decide)) T.b_Scheme_slot .nil pass0 rfl) (pa_cons (pv 1) (pa_cons (pv 2) pa_nil)))))))) (pss_one ps_never) pss_nil)
      (pss_one (ps_ret (pv 2)))))), ?_⟩
      try dsimp only [L2.cxOf, L2.Cx.nox, L2.Cx.wish]
      try rw [st_log_modulus]
      with_reducible refine Rd.seq (Rd.asg (Rd.call (Rd.cons (Rd.var (by walk_at "vr") (Rd.cons (Rd.var (by walk_at "vr") (Rd.nil ?_)))))))
      refine ⟨_, _, _, rfl, (by assumption), wfw, .inl ⟨_, rfl, n1, n2, .inl ⟨hm, ?_⟩⟩⟩
      with_reducible refine Rd.name ?_
      try dsimp only [Int.reduceToNat, List.set]
      with_reducible refine Rd.seq (Rd.ifS (Rd.test (Rd.op (Rd.prop (Rd.var (by walk_at "vr") (⟨_, _, _, rfl, (by walk_at "hp"), ?_⟩))))))
      refine in_Scheme_when (fun cdv Ar outer s hr => ?_) rfl
      have hu := hu_of hr
      refine ⟨_, (pss_one (ps_ret (pe_dget hu (pe_fld (pv 0) rfl) pe_str (fun _ _ => rfl)))), ?_⟩
      try dsimp only [L2.cxOf, L2.Cx.nox, L2.Cx.wish]
      with_reducible refine Rd.ret (Rd.dget (Rd.fld (Rd.var (by walk_at "vr") (⟨_, _, _, _, _, rfl, (by walk_at "hp"), T.k_Scheme, T.n_Scheme_parts, (by walk_at "lk"), (Rd.c ?_)⟩))))
      refine Rd.dget2 (by walk_at "hp") (by walk_at "dl") ?_
      with_reducible refine Rd.c (Rd.neS (by walk_at "vr") (Rd.bl (Rd.iteF (by walk_at "bF") (Rd.next (Rd.seq (Rd.ifS (Rd.or (Rd.test (Rd.op (Rd.op (Rd.var (by walk_at "vr") ?_)))))))))))
      with_reducible refine Rd.var (by walk_at "vr") (Rd.iC (by walk_at "sc") (Rd.c (Rd.neS (by walk_at "vr") (Rd.bl (Rd.iteF (by walk_at "bF") (Rd.tb (Rd.call (Rd.cons (Rd.prop (Rd.var (by walk_at "vr") (⟨_, _, _, rfl, (by walk_at "hp"), ?_⟩)))))))))))
      refine in_Scheme_slot (fun cdv Ar outer s hr => ?_) rfl
      have hu := hu_of hr
      refine ⟨_, (pss_one (ps_ret (pe_dget hu (pe_fld (pv 0) rfl) pe_str (fun _ _ => rfl)))), ?_⟩
      try dsimp only [L2.cxOf, L2.Cx.nox, L2.Cx.wish]
      with_reducible refine Rd.ret (Rd.dget (Rd.fld (Rd.var (by walk_at "vr") (⟨_, _, _, _, _, rfl, (by walk_at "hp"), T.k_Scheme, T.n_Scheme_parts, (by walk_at "lk"), (Rd.c ?_)⟩))))
      refine Rd.dget2 (by walk_at "hp") (by walk_at "dl") ?_
      with_reducible refine Rd.cons (Rd.var (by walk_at "vr") (Rd.cons (Rd.var (by walk_at "vr") (Rd.nil ?_))))
      refine ⟨_, _, _, rfl, n1, n2, ?_⟩
      with_reducible refine Rd.bl (Rd.iteF (by walk_at "bF") (Rd.next (Rd.ret (Rd.var (by walk_at "vr") ?_))))
      exact k
    · skip
      refine ⟨_, (pss_cons (ps_set (i := 2) sc_log_modulus.nd rfl (Or.inl rfl) (pe_call (ok_modulus_of T) (hr.mono (by decide)) (by rfl) T.m_modulus_of T.F_modulus_of.kp T.b_modulus_of .nil (passes_call (takes_of rfl rfl rfl rfl) fun _ _ _ _ h => h) (pa_cons (pv 0) (pa_cons (pv 1) pa_nil))))
      (pss_cons ps_never (pss_cons ps_never (pss_one ps_never)))), ?_⟩
      try dsimp only [L2.cxOf, L2.Cx.nox, L2.Cx.wish]
      try rw [st_log_modulus]
      with_reducible refine Rd.seq (Rd.asg (Rd.call (Rd.cons (Rd.var (by walk_at "vr") (Rd.cons (Rd.var (by walk_at "vr") (Rd.nil ?_)))))))
      refine ⟨_, _, _, rfl, (by assumption), wfw, .inr ⟨.inl ⟨0, rfl, by decide⟩, fun H1 S1 => k _ (by walk_at "frm")⟩⟩
    · skip
      refine ⟨_, (pss_cons (ps_set (i := 2) sc_log_modulus.nd rfl (Or.inl rfl) (pe_call (ok_modulus_of T) (hr.mono (by decide)) (by rfl) T.m_modulus_of T.F_modulus_of.kp T.b_modulus_of .nil (passes_call (takes_of rfl rfl rfl rfl) fun _ _ _ _ h => h) (pa_cons (pv 0) (pa_cons (pv 1) pa_nil))))
      (pss_cons ps_never (pss_cons ps_never (pss_one ps_never)))), ?_⟩
      try dsimp only [L2.cxOf, L2.Cx.nox, L2.Cx.wish]
      try rw [st_log_modulus]
      with_reducible refine Rd.seq (Rd.asg (Rd.call (Rd.cons (Rd.var (by walk_at "vr") (Rd.cons (Rd.var (by walk_at "vr") (Rd.nil ?_)))))))
      refine ⟨_, _, _, rfl, (by assumption), wfw, .inl ⟨_, rfl, n1, n2, .inr ⟨hm, fun H1 S1 => k _ (by walk_at "frm")⟩⟩⟩
/-! check_lag -/
theorem sc_check_lag : FnScope ["thing", "most"] ["thing", "most"] (defScope s_check_lag) := ⟨rfl, rfl, rfl, by decide +kernel, rfl, by decide +kernel, by decide +kernel⟩
abbrev sp_check_lag (K : PySem.W.Frag) (A : Adr) : Sp := fun vs H Q E => ∃ (y : V) (m : Int), vs = [y, .int m] ∧ ((∃ c : Int, y = .int c ∧ 0 ≤ c ∧ c ≤ m ∧ Q .non H) ∨ (BadM K H m y ∧ ∀ H1, Same H H1 → E (.ref A.c_NoLag) none H1))
theorem ok_check_lag (T : Txt w K mg A) : FnOk P w K mg base (L2.CX P w) 3 A.f_check_lag A.d_check_lag ["thing", "most"] (sp_check_lag K A) := by
  refine T.F_check_lag.okX sc_check_lag (fun vs H Q E h => ?_) (fun cdv Ar outer s H vs Q E hr h => ?_)
  · obtain ⟨y, m, rfl, hy⟩ := h
    rfl
  · obtain ⟨y, m, rfl, hy⟩ := h
    have hu := hu_of hr
    have t_q_PART_NAMES := T.q_PART_NAMES
    have t_q_PART_WORDS_slot := T.q_PART_WORDS_slot
    have t_d_PART_WORDS_slot := T.d_PART_WORDS_slot
    have t_q_PART_WORDS_empty := T.q_PART_WORDS_empty
    have t_d_PART_WORDS_empty := T.d_PART_WORDS_empty
    have t_q_PART_WORDS_when := T.q_PART_WORDS_when
    have t_d_PART_WORDS_when := T.d_PART_WORDS_when
    have t_q_MEASURES := T.q_MEASURES
    have t_q_SIGNS := T.q_SIGNS
    have t_q_PLAIN_FULLS := T.q_PLAIN_FULLS
    have t_i_Form := T.i_Form
    have t_kt_Form_Form := T.kt_Form_Form
    have t_kt_int_Form := T.kt_int_Form
    have t_i_SizeSet := T.i_SizeSet
    have t_kt_SizeSet_SizeSet := T.kt_SizeSet_SizeSet
    have t_kt_tuple_SizeSet := T.kt_tuple_SizeSet
    have t_nf_Form_Form := T.nf_Form_Form
    have t_nf_int_Form := T.nf_int_Form
    have t_nf_SizeSet_SizeSet := T.nf_SizeSet_SizeSet
    have t_nf_tuple_SizeSet := T.nf_tuple_SizeSet
    have t_xm_NoSize_NoSize := T.xm_NoSize_NoSize
    have t_xm_NoRing_NoSize := T.xm_NoRing_NoSize
    have t_xm_NoRing_NoRing := T.xm_NoRing_NoRing
    have t_xm_NotDecided_NoSize := T.xm_NotDecided_NoSize
    have t_xm_NotDecided_NoRing := T.xm_NotDecided_NoRing
    have t_xm_NotDecided_NotDecided := T.xm_NotDecided_NotDecided
    have t_xm_NoLag_NoSize := T.xm_NoLag_NoSize
    have t_xm_NoLag_NoRing := T.xm_NoLag_NoRing
    have t_xm_NoLag_NotDecided := T.xm_NoLag_NotDecided
    have t_xm_NoLag_NoLag := T.xm_NoLag_NoLag
    have t_xm_TooLong_TooLong := T.xm_TooLong_TooLong
    have t_k_Form := T.k_Form
    have t_k_Scheme := T.k_Scheme
    have t_k_Belief := T.k_Belief
    have t_k_SizeSet := T.k_SizeSet
    rcases hy with ⟨c, rfl, c0, cM, k⟩ | ⟨⟨i, rfl, hb⟩ | ⟨i, rfl, hb, hb'⟩ | hb, k⟩
    · skip
      refine ⟨_, (pss_one (ps_if (pt_not (pt_val (pe_call (ok_is_whole_from T) (hr.mono (by decide)) (by rfl) T.m_is_whole_from T.F_is_whole_from.kp T.b_is_whole_from .nil pass0 (pa_cons (pv 0) (pa_cons pe_int (pa_cons (pv 1) pa_nil)))))) (pss_one ps_never) pss_nil)), ?_⟩
      try dsimp only [L2.cxOf, L2.Cx.nox, L2.Cx.wish]
      with_reducible refine Rd.ifS (Rd.not (Rd.tb (Rd.call (Rd.cons (Rd.var (by walk_at "vr") (Rd.cons (Rd.c (Rd.cons (Rd.var (by walk_at "vr") (Rd.nil ?_))))))))))
      refine ⟨_, _, _, rfl, .inl ⟨_, rfl, (by walk_at "sc"), (by walk_at "sc"), ?_⟩⟩
      with_reducible refine Rd.bl (Rd.iteF (by walk_at "bF") (Rd.next ?_))
      exact k
    · skip
      refine ⟨_, (pss_one (ps_if (pt_not (pt_val (pe_call (ok_is_whole_from T) (hr.mono (by decide)) (by rfl) T.m_is_whole_from T.F_is_whole_from.kp T.b_is_whole_from .nil pass0 (pa_cons (pv 0) (pa_cons pe_int (pa_cons (pv 1) pa_nil)))))) (pss_one (ps_raise rfl (takes_of rfl rfl rfl rfl) (pmk_own PySem.F.excBase_ValueError T.x_NoLag T.m_NoLag T.kp_NoLag (raises_own T.sb_NoLag T.tc_NoLag) rfl))) pss_nil)), ?_⟩
      try dsimp only [L2.cxOf, L2.Cx.nox, L2.Cx.wish]
      with_reducible refine Rd.ifS (Rd.not (Rd.tb (Rd.call (Rd.cons (Rd.var (by walk_at "vr") (Rd.cons (Rd.c (Rd.cons (Rd.var (by walk_at "vr") (Rd.nil ?_))))))))))
      refine ⟨_, _, _, rfl, .inr (.inl ⟨_, rfl, (by walk_at "sc"), ?_⟩)⟩
      with_reducible refine Rd.bl (Rd.iteT (by walk_at "bT") ?_)
      exact k _ (Same.refl _)
    · skip
      refine ⟨_, (pss_one (ps_if (pt_not (pt_val (pe_call (ok_is_whole_from T) (hr.mono (by decide)) (by rfl) T.m_is_whole_from T.F_is_whole_from.kp T.b_is_whole_from .nil pass0 (pa_cons (pv 0) (pa_cons pe_int (pa_cons (pv 1) pa_nil)))))) (pss_one (ps_raise rfl (takes_of rfl rfl rfl rfl) (pmk_own PySem.F.excBase_ValueError T.x_NoLag T.m_NoLag T.kp_NoLag (raises_own T.sb_NoLag T.tc_NoLag) rfl))) pss_nil)), ?_⟩
      try dsimp only [L2.cxOf, L2.Cx.nox, L2.Cx.wish]
      with_reducible refine Rd.ifS (Rd.not (Rd.tb (Rd.call (Rd.cons (Rd.var (by walk_at "vr") (Rd.cons (Rd.c (Rd.cons (Rd.var (by walk_at "vr") (Rd.nil ?_))))))))))
      refine ⟨_, _, _, rfl, .inr (.inr (.inl ⟨_, rfl, (by walk_at "sc"), (by walk_at "sc"), ?_⟩))⟩
      with_reducible refine Rd.bl (Rd.iteT (by walk_at "bT") ?_)
      exact k _ (Same.refl _)
    · skip
      refine ⟨_, (pss_one (ps_if (pt_not (pt_val (pe_call (ok_is_whole_from T) (hr.mono (by decide)) (by rfl) T.m_is_whole_from T.F_is_whole_from.kp T.b_is_whole_from .nil pass0 (pa_cons (pv 0) (pa_cons pe_int (pa_cons (pv 1) pa_nil)))))) (pss_one (ps_raise rfl (takes_of rfl rfl rfl rfl) (pmk_own PySem.F.excBase_ValueError T.x_NoLag T.m_NoLag T.kp_NoLag (raises_own T.sb_NoLag T.tc_NoLag) rfl))) pss_nil)), ?_⟩
      try dsimp only [L2.cxOf, L2.Cx.nox, L2.Cx.wish]
      with_reducible refine Rd.ifS (Rd.not (Rd.tb (Rd.call (Rd.cons (Rd.var (by walk_at "vr") (Rd.cons (Rd.c (Rd.cons (Rd.var (by walk_at "vr") (Rd.nil ?_))))))))))
      refine ⟨_, _, _, rfl, .inr (.inr (.inr ⟨(by with_reducible assumption), ?_⟩))⟩
      with_reducible refine Rd.bl (Rd.iteT (by walk_at "bT") ?_)
      exact k _ (Same.refl _)
/-! belief_of -/
theorem sc_belief_of : FnScope ["scheme", "n", "lag", "modulus"] ["scheme", "n", "lag"] (defScope s_belief_of) := ⟨rfl, rfl, rfl, by decide +kernel, rfl, by decide +kernel, by decide +kernel⟩
theorem st_belief_of {v0 v1 v2 : V} : L2.start ["scheme", "n", "lag", "modulus"] [v0, v1, v2] = [some v0, some v1, some v2, none] := rfl
abbrev sp_belief_of (K : PySem.W.Frag) (A : Adr) : Sp := fun vs H Q E => ∃ (p : Addr) (t : Pt) (y z : V), vs = [.ref p, y, z] ∧ IsScheme A H p t ∧ Wf t ∧ ((y = .int 0 ∧ ∀ H1, Same H H1 → E (.ref A.c_NoSize) none H1) ∨ ∃ n : Int, y = .int n ∧ 1 ≤ n ∧ n ≤ 1000000000000000000000000000000 ∧ ((modV t.wrap n < 1 ∧ ∀ H1, Same H H1 → E (.ref A.c_NoRing) none H1) ∨ (1 ≤ modV t.wrap n ∧ ((¬ LogOk t n ∧ ∀ H1, Same H H1 → E (.ref A.c_NotDecided) none H1) ∨ (LogOk t n ∧ ((∃ l : Int, z = .int l ∧ 0 ≤ l ∧ l ≤ 10000000000000000000000000000000000000000 ∧ ∀ (q : Addr) (H' : Hp), Same H H' → IsBel A H' q l (modV t.wrap n) n → Q (.ref q) H') ∨ (BadL K H z ∧ ∀ H1, Same H H1 → E (.ref A.c_NoLag) none H1)))))))
theorem ok_belief_of (T : Txt w K mg A) : FnOk P w K mg base (L2.CX P w) 7 A.f_belief_of A.d_belief_of ["scheme", "n", "lag"] (sp_belief_of K A) := by
  refine T.F_belief_of.okX sc_belief_of (fun vs H Q E h => ?_) (fun cdv Ar outer s H vs Q E hr h => ?_)
  · obtain ⟨p, t, y, z, rfl, hsch, wf, hy⟩ := h
    rfl
  · obtain ⟨p, t, y, z, rfl, hsch, wf, hy⟩ := h
    have hu := hu_of hr
    have t_q_PART_NAMES := T.q_PART_NAMES
    have t_q_PART_WORDS_slot := T.q_PART_WORDS_slot
    have t_d_PART_WORDS_slot := T.d_PART_WORDS_slot
    have t_q_PART_WORDS_empty := T.q_PART_WORDS_empty
    have t_d_PART_WORDS_empty := T.d_PART_WORDS_empty
    have t_q_PART_WORDS_when := T.q_PART_WORDS_when
    have t_d_PART_WORDS_when := T.d_PART_WORDS_when
    have t_q_MEASURES := T.q_MEASURES
    have t_q_SIGNS := T.q_SIGNS
    have t_q_PLAIN_FULLS := T.q_PLAIN_FULLS
    have t_i_Form := T.i_Form
    have t_kt_Form_Form := T.kt_Form_Form
    have t_kt_int_Form := T.kt_int_Form
    have t_i_SizeSet := T.i_SizeSet
    have t_kt_SizeSet_SizeSet := T.kt_SizeSet_SizeSet
    have t_kt_tuple_SizeSet := T.kt_tuple_SizeSet
    have t_nf_Form_Form := T.nf_Form_Form
    have t_nf_int_Form := T.nf_int_Form
    have t_nf_SizeSet_SizeSet := T.nf_SizeSet_SizeSet
    have t_nf_tuple_SizeSet := T.nf_tuple_SizeSet
    have t_xm_NoSize_NoSize := T.xm_NoSize_NoSize
    have t_xm_NoRing_NoSize := T.xm_NoRing_NoSize
    have t_xm_NoRing_NoRing := T.xm_NoRing_NoRing
    have t_xm_NotDecided_NoSize := T.xm_NotDecided_NoSize
    have t_xm_NotDecided_NoRing := T.xm_NotDecided_NoRing
    have t_xm_NotDecided_NotDecided := T.xm_NotDecided_NotDecided
    have t_xm_NoLag_NoSize := T.xm_NoLag_NoSize
    have t_xm_NoLag_NoRing := T.xm_NoLag_NoRing
    have t_xm_NoLag_NotDecided := T.xm_NoLag_NotDecided
    have t_xm_NoLag_NoLag := T.xm_NoLag_NoLag
    have t_xm_TooLong_TooLong := T.xm_TooLong_TooLong
    have t_k_Form := T.k_Form
    have t_k_Scheme := T.k_Scheme
    have t_k_Belief := T.k_Belief
    have t_k_SizeSet := T.k_SizeSet
    rcases hy with ⟨rfl, k⟩ | ⟨n, rfl, n1, n2, ⟨hm, k⟩ | ⟨hm, ⟨hl, k⟩ | ⟨hl, ⟨l, rfl, l0, l1, k⟩ | ⟨hb, k⟩⟩⟩⟩
    · skip
      refine ⟨_, (pss_cons (ps_set (i := 3) sc_belief_of.nd rfl (Or.inl rfl) (pe_call (ok_log_modulus T) (hr.mono (by decide)) (by rfl) T.m_log_modulus T.F_log_modulus.kp T.b_log_modulus .nil (passes_call (takes_of rfl rfl rfl rfl) fun _ _ _ _ h => h) (pa_cons (pv 0) (pa_cons (pv 1) pa_nil))))
      (pss_cons ps_never (pss_one ps_never))), ?_⟩
      try dsimp only [L2.cxOf, L2.Cx.nox, L2.Cx.wish]
      try rw [st_belief_of]
      with_reducible refine Rd.seq (Rd.asg (Rd.call (Rd.cons (Rd.var (by walk_at "vr") (Rd.cons (Rd.var (by walk_at "vr") (Rd.nil ?_)))))))
      refine ⟨_, _, _, rfl, (by assumption), (by assumption), .inl ⟨rfl, fun H1 S1 => k _ (by walk_at "frm")⟩⟩
    · skip
      refine ⟨_, (pss_cons (ps_set (i := 3) sc_belief_of.nd rfl (Or.inl rfl) (pe_call (ok_log_modulus T) (hr.mono (by decide)) (by rfl) T.m_log_modulus T.F_log_modulus.kp T.b_log_modulus .nil (passes_call (takes_of rfl rfl rfl rfl) fun _ _ _ _ h => h) (pa_cons (pv 0) (pa_cons (pv 1) pa_nil))))
      (pss_cons ps_never (pss_one ps_never))), ?_⟩
      try dsimp only [L2.cxOf, L2.Cx.nox, L2.Cx.wish]
      try rw [st_belief_of]
      with_reducible refine Rd.seq (Rd.asg (Rd.call (Rd.cons (Rd.var (by walk_at "vr") (Rd.cons (Rd.var (by walk_at "vr") (Rd.nil ?_)))))))
      refine ⟨_, _, _, rfl, (by assumption), (by assumption), .inr ⟨_, rfl, n1, n2, .inl ⟨hm, fun H1 S1 => k _ (by walk_at "frm")⟩⟩⟩
    · skip
      refine ⟨_, (pss_cons (ps_set (i := 3) sc_belief_of.nd rfl (Or.inl rfl) (pe_call (ok_log_modulus T) (hr.mono (by decide)) (by rfl) T.m_log_modulus T.F_log_modulus.kp T.b_log_modulus .nil (passes_call (takes_of rfl rfl rfl rfl) fun _ _ _ _ h => h) (pa_cons (pv 0) (pa_cons (pv 1) pa_nil))))
      (pss_cons ps_never (pss_one ps_never))), ?_⟩
      try dsimp only [L2.cxOf, L2.Cx.nox, L2.Cx.wish]
      try rw [st_belief_of]
      with_reducible refine Rd.seq (Rd.asg (Rd.call (Rd.cons (Rd.var (by walk_at "vr") (Rd.cons (Rd.var (by walk_at "vr") (Rd.nil ?_)))))))
      refine ⟨_, _, _, rfl, (by assumption), (by assumption), .inr ⟨_, rfl, n1, n2, .inr ⟨hm, .inl ⟨hl, fun H1 S1 => k _ (by walk_at "frm")⟩⟩⟩⟩
    · skip
      refine ⟨_, (pss_cons (ps_set (i := 3) sc_belief_of.nd rfl (Or.inl rfl) (pe_call (ok_log_modulus T) (hr.mono (by decide)) (by rfl) T.m_log_modulus T.F_log_modulus.kp T.b_log_modulus .nil (passes_call (takes_of rfl rfl rfl rfl) fun _ _ _ _ h => h) (pa_cons (pv 0) (pa_cons (pv 1) pa_nil))))
      (pss_cons (ps_expr (pe_call (ok_check_lag T) (hr.mono (by decide)) (by rfl) T.m_check_lag T.F_check_lag.kp T.b_check_lag .nil (passes_call (takes_of rfl rfl rfl rfl) fun _ _ _ _ h => h) (pa_cons (pv 2) (pa_cons (pe_glob (v := .int (10000000000000000000000000000000000000000)) rfl T.m_GREATEST_LAG ⟨_, rfl⟩) pa_nil))))
      (pss_one (ps_ret (pe_make T.K_Belief (ok_Beliefu__initu_ T) (hr.mono (by decide)) (by rfl) T.m_Belief T.b_Beliefu__initu_ .nil pass0 (pa_cons (pv 2) (pa_cons (pv 3) (pa_cons (pv 1) pa_nil)))))))), ?_⟩
      try dsimp only [L2.cxOf, L2.Cx.nox, L2.Cx.wish]
      try rw [st_belief_of]
      with_reducible refine Rd.seq (Rd.asg (Rd.call (Rd.cons (Rd.var (by walk_at "vr") (Rd.cons (Rd.var (by walk_at "vr") (Rd.nil ?_)))))))
      refine ⟨_, _, _, rfl, (by assumption), (by assumption), .inr ⟨_, rfl, n1, n2, .inr ⟨hm, .inr ⟨hl, ?_⟩⟩⟩⟩
      with_reducible refine Rd.name ?_
      try dsimp only [Int.reduceToNat, List.set]
      with_reducible refine Rd.seq (Rd.drop (Rd.call (Rd.cons (Rd.var (by walk_at "vr") (Rd.cons (Rd.c (Rd.nil ?_)))))))
      refine ⟨_, _, rfl, .inl ⟨_, rfl, l0, l1, ?_⟩⟩
      with_reducible refine Rd.ret (Rd.make (Rd.cons (Rd.var (by walk_at "vr") (Rd.cons (Rd.var (by walk_at "vr") (Rd.cons (Rd.var (by walk_at "vr") (Rd.nil ?_))))))))
      intro x3 dx3 nx3 ndx3 ne3
      refine ⟨_, _, _, _, _, rfl, L2.upd_same, ?_⟩
      refine ⟨rfl, ?_⟩
      rw [L2.upd_upd]
      exact k _ _ (by walk_at "frm") ⟨_, L2.upd_same⟩
    · skip
      refine ⟨_, (pss_cons (ps_set (i := 3) sc_belief_of.nd rfl (Or.inl rfl) (pe_call (ok_log_modulus T) (hr.mono (by decide)) (by rfl) T.m_log_modulus T.F_log_modulus.kp T.b_log_modulus .nil (passes_call (takes_of rfl rfl rfl rfl) fun _ _ _ _ h => h) (pa_cons (pv 0) (pa_cons (pv 1) pa_nil))))
      (pss_cons (ps_expr (pe_call (ok_check_lag T) (hr.mono (by decide)) (by rfl) T.m_check_lag T.F_check_lag.kp T.b_check_lag .nil (passes_call (takes_of rfl rfl rfl rfl) fun _ _ _ _ h => h) (pa_cons (pv 2) (pa_cons (pe_glob (v := .int (10000000000000000000000000000000000000000)) rfl T.m_GREATEST_LAG ⟨_, rfl⟩) pa_nil))))
      (pss_one ps_never))), ?_⟩
      try dsimp only [L2.cxOf, L2.Cx.nox, L2.Cx.wish]
      try rw [st_belief_of]
      with_reducible refine Rd.seq (Rd.asg (Rd.call (Rd.cons (Rd.var (by walk_at "vr") (Rd.cons (Rd.var (by walk_at "vr") (Rd.nil ?_)))))))
      refine ⟨_, _, _, rfl, (by assumption), (by assumption), .inr ⟨_, rfl, n1, n2, .inr ⟨hm, .inr ⟨hl, ?_⟩⟩⟩⟩
      with_reducible refine Rd.name ?_
      try dsimp only [Int.reduceToNat, List.set]
      with_reducible refine Rd.seq (Rd.drop (Rd.call (Rd.cons (Rd.var (by walk_at "vr") (Rd.cons (Rd.c (Rd.nil ?_)))))))
      refine ⟨_, _, rfl, .inr ⟨hb, fun H1 S1 => k _ (by walk_at "frm")⟩⟩
/-! short_modulus -/
theorem sc_short_modulus : FnScope ["scheme", "n", "modulus"] ["scheme", "n"] (defScope s_short_modulus) := ⟨rfl, rfl, rfl, by decide +kernel, rfl, by decide +kernel, by decide +kernel⟩
abbrev sp_short_modulus (K : PySem.W.Frag) (A : Adr) : Sp := fun vs H Q E => ∃ (p : Addr) (t : Pt) (n : Int), vs = [.ref p, .int n] ∧ IsScheme A H p t ∧ Wf t ∧ 1 ≤ n ∧ n ≤ 1000000000000000000000000000000 ∧ 1 ≤ modV t.wrap n ∧ LogOk t n ∧ ((modV t.wrap n ≤ 2000 ∧ Q (.int (modV t.wrap n)) H) ∨ (2000 < modV t.wrap n ∧ ∀ H1, Same H H1 → E (.ref A.c_TooLong) none H1))
theorem ok_short_modulus (T : Txt w K mg A) : FnOk P w K mg base (L2.CX P w) 7 A.f_short_modulus A.d_short_modulus ["scheme", "n"] (sp_short_modulus K A) := by
  refine T.F_short_modulus.okX sc_short_modulus (fun vs H Q E h => ?_) (fun cdv Ar outer s H vs Q E hr h => ?_)
  · obtain ⟨p, t, n, rfl, hsch, wf, n1, n2, hm, hl, hk⟩ := h
    rfl
  · obtain ⟨p, t, n, rfl, hsch, wf, n1, n2, hm, hl, hk⟩ := h
    have hu := hu_of hr
    have t_q_PART_NAMES := T.q_PART_NAMES
    have t_q_PART_WORDS_slot := T.q_PART_WORDS_slot
    have t_d_PART_WORDS_slot := T.d_PART_WORDS_slot
    have t_q_PART_WORDS_empty := T.q_PART_WORDS_empty
    have t_d_PART_WORDS_empty := T.d_PART_WORDS_empty
    have t_q_PART_WORDS_when := T.q_PART_WORDS_when
    have t_d_PART_WORDS_when := T.d_PART_WORDS_when
    have t_q_MEASURES := T.q_MEASURES
    have t_q_SIGNS := T.q_SIGNS
    have t_q_PLAIN_FULLS := T.q_PLAIN_FULLS
    have t_i_Form := T.i_Form
    have t_kt_Form_Form := T.kt_Form_Form
    have t_kt_int_Form := T.kt_int_Form
    have t_i_SizeSet := T.i_SizeSet
    have t_kt_SizeSet_SizeSet := T.kt_SizeSet_SizeSet
    have t_kt_tuple_SizeSet := T.kt_tuple_SizeSet
    have t_nf_Form_Form := T.nf_Form_Form
    have t_nf_int_Form := T.nf_int_Form
    have t_nf_SizeSet_SizeSet := T.nf_SizeSet_SizeSet
    have t_nf_tuple_SizeSet := T.nf_tuple_SizeSet
    have t_xm_NoSize_NoSize := T.xm_NoSize_NoSize
    have t_xm_NoRing_NoSize := T.xm_NoRing_NoSize
    have t_xm_NoRing_NoRing := T.xm_NoRing_NoRing
    have t_xm_NotDecided_NoSize := T.xm_NotDecided_NoSize
    have t_xm_NotDecided_NoRing := T.xm_NotDecided_NoRing
    have t_xm_NotDecided_NotDecided := T.xm_NotDecided_NotDecided
    have t_xm_NoLag_NoSize := T.xm_NoLag_NoSize
    have t_xm_NoLag_NoRing := T.xm_NoLag_NoRing
    have t_xm_NoLag_NotDecided := T.xm_NoLag_NotDecided
    have t_xm_NoLag_NoLag := T.xm_NoLag_NoLag
    have t_xm_TooLong_TooLong := T.xm_TooLong_TooLong
    have t_k_Form := T.k_Form
    have t_k_Scheme := T.k_Scheme
    have t_k_Belief := T.k_Belief
    have t_k_SizeSet := T.k_SizeSet
    have nM := n_le_M hl n1 hm
    rcases hk with ⟨m2, k⟩ | ⟨m2, k⟩
    · skip
      refine ⟨_, (pss_cons (ps_set (i := 2) sc_short_modulus.nd rfl (Or.inl rfl) (pe_call (ok_log_modulus T) (hr.mono (by decide)) (by rfl) T.m_log_modulus T.F_log_modulus.kp T.b_log_modulus .nil (passes_call (takes_of rfl rfl rfl rfl) fun _ _ _ _ h => h) (pa_cons (pv 0) (pa_cons (pv 1) pa_nil))))
      (pss_cons (ps_if (pt_cmpR op_gt (pv 2) (pe_glob (v := .int (2000)) rfl T.m_GREATEST_TOLD_MODULUS ⟨_, rfl⟩) (nomark _)) (pss_one ps_never) pss_nil)
      (pss_one (ps_ret (pv 2))))), ?_⟩
      try dsimp only [L2.cxOf, L2.Cx.nox, L2.Cx.wish]
      with_reducible refine Rd.seq (Rd.asg (Rd.call (Rd.cons (Rd.var (by walk_at "vr") (Rd.cons (Rd.var (by walk_at "vr") (Rd.nil ?_)))))))
      refine ⟨_, _, _, rfl, (by assumption), (by assumption), .inr ⟨_, rfl, n1, n2, .inr ⟨hm, .inr ⟨hl, ?_⟩⟩⟩⟩
      with_reducible refine Rd.name (Rd.seq (Rd.ifS (Rd.test (Rd.op (Rd.var (by walk_at "vr") (Rd.c (Rd.i0 (Rd.bl (Rd.iteF (by walk_at "bF") (Rd.next (Rd.ret ?_)))))))))))
      with_reducible refine Rd.var (by walk_at "vr") ?_
      exact k
    · skip
      refine ⟨_, (pss_cons (ps_set (i := 2) sc_short_modulus.nd rfl (Or.inl rfl) (pe_call (ok_log_modulus T) (hr.mono (by decide)) (by rfl) T.m_log_modulus T.F_log_modulus.kp T.b_log_modulus .nil (passes_call (takes_of rfl rfl rfl rfl) fun _ _ _ _ h => h) (pa_cons (pv 0) (pa_cons (pv 1) pa_nil))))
      (pss_cons (ps_if (pt_cmpR op_gt (pv 2) (pe_glob (v := .int (2000)) rfl T.m_GREATEST_TOLD_MODULUS ⟨_, rfl⟩) (nomark _)) (pss_one (ps_raise rfl (takes_of rfl rfl rfl rfl) (pmk_own PySem.F.excBase_ValueError T.x_TooLong T.m_TooLong T.kp_TooLong (raises_own T.sb_TooLong T.tc_TooLong) rfl))) pss_nil)
      (pss_one ps_never))), ?_⟩
      try dsimp only [L2.cxOf, L2.Cx.nox, L2.Cx.wish]
      with_reducible refine Rd.seq (Rd.asg (Rd.call (Rd.cons (Rd.var (by walk_at "vr") (Rd.cons (Rd.var (by walk_at "vr") (Rd.nil ?_)))))))
      refine ⟨_, _, _, rfl, (by assumption), (by assumption), .inr ⟨_, rfl, n1, n2, .inr ⟨hm, .inr ⟨hl, ?_⟩⟩⟩⟩
      with_reducible refine Rd.name (Rd.seq (Rd.ifS (Rd.test (Rd.op (Rd.var (by walk_at "vr") (Rd.c (Rd.i0 (Rd.bl (Rd.iteT (by walk_at "bT") ?_)))))))))
      exact k _ (by walk_at "frm")
/-! right_lags -/
theorem sc_right_lags : FnScope ["scheme", "n", "modulus"] ["scheme", "n"] (defScope s_right_lags) := ⟨rfl, rfl, rfl, by decide +kernel, rfl, by decide +kernel, by decide +kernel⟩
theorem st_right_lags {v0 v1 : V} : L2.start ["scheme", "n", "modulus"] [v0, v1] = [some v0, some v1, none] := rfl
abbrev sp_right_lags (K : PySem.W.Frag) (A : Adr) : Sp := fun vs H Q E => ∃ (p : Addr) (t : Pt) (n : Int), vs = [.ref p, .int n] ∧ IsScheme A H p t ∧ Wf t ∧ 1 ≤ n ∧ n ≤ 1000000000000000000000000000000 ∧ 1 ≤ modV t.wrap n ∧ LogOk t n ∧ ((modV t.wrap n ≤ 2000 ∧ ∀ (q : Addr) (t9 : Rows) (H' : Hp), Same H H' → H q = none → Canon (rowsR (modV t.wrap n)) t9 → SetNew A H H' q (rowsR (modV t.wrap n)) t9 → Q (.ref q) H') ∨ (2000 < modV t.wrap n ∧ ∀ H1, Same H H1 → E (.ref A.c_TooLong) none H1))
theorem ok_right_lags (T : Txt w K mg A) : FnOk P w K mg base (L2.CX P w) 8 A.f_right_lags A.d_right_lags ["scheme", "n"] (sp_right_lags K A) := by
  refine T.F_right_lags.okX sc_right_lags (fun vs H Q E h => ?_) (fun cdv Ar outer s H vs Q E hr h => ?_)
  · obtain ⟨p, t, n, rfl, hsch, wf, n1, n2, hm, hl, hk⟩ := h
    rfl
  · obtain ⟨p, t, n, rfl, hsch, wf, n1, n2, hm, hl, hk⟩ := h
    have hu := hu_of hr
    have t_q_PART_NAMES := T.q_PART_NAMES
    have t_q_PART_WORDS_slot := T.q_PART_WORDS_slot
    have t_d_PART_WORDS_slot := T.d_PART_WORDS_slot
    have t_q_PART_WORDS_empty := T.q_PART_WORDS_empty
    have t_d_PART_WORDS_empty := T.d_PART_WORDS_empty
    have t_q_PART_WORDS_when := T.q_PART_WORDS_when
    have t_d_PART_WORDS_when := T.d_PART_WORDS_when
    have t_q_MEASURES := T.q_MEASURES
    have t_q_SIGNS := T.q_SIGNS
    have t_q_PLAIN_FULLS := T.q_PLAIN_FULLS
    have t_i_Form := T.i_Form
    have t_kt_Form_Form := T.kt_Form_Form
    have t_kt_int_Form := T.kt_int_Form
    have t_i_SizeSet := T.i_SizeSet
    have t_kt_SizeSet_SizeSet := T.kt_SizeSet_SizeSet
    have t_kt_tuple_SizeSet := T.kt_tuple_SizeSet
    have t_nf_Form_Form := T.nf_Form_Form
    have t_nf_int_Form := T.nf_int_Form
    have t_nf_SizeSet_SizeSet := T.nf_SizeSet_SizeSet
    have t_nf_tuple_SizeSet := T.nf_tuple_SizeSet
    have t_xm_NoSize_NoSize := T.xm_NoSize_NoSize
    have t_xm_NoRing_NoSize := T.xm_NoRing_NoSize
    have t_xm_NoRing_NoRing := T.xm_NoRing_NoRing
    have t_xm_NotDecided_NoSize := T.xm_NotDecided_NoSize
    have t_xm_NotDecided_NoRing := T.xm_NotDecided_NoRing
    have t_xm_NotDecided_NotDecided := T.xm_NotDecided_NotDecided
    have t_xm_NoLag_NoSize := T.xm_NoLag_NoSize
    have t_xm_NoLag_NoRing := T.xm_NoLag_NoRing
    have t_xm_NoLag_NotDecided := T.xm_NoLag_NotDecided
    have t_xm_NoLag_NoLag := T.xm_NoLag_NoLag
    have t_xm_TooLong_TooLong := T.xm_TooLong_TooLong
    have t_k_Form := T.k_Form
    have t_k_Scheme := T.k_Scheme
    have t_k_Belief := T.k_Belief
    have t_k_SizeSet := T.k_SizeSet
    have nM := n_le_M hl n1 hm
    rcases hk with ⟨m2, k⟩ | ⟨m2, k⟩
    · skip
      refine ⟨_, (pss_cons (ps_set (i := 2) sc_right_lags.nd rfl (Or.inl rfl) (pe_call (ok_short_modulus T) (hr.mono (by decide)) (by rfl) T.m_short_modulus T.F_short_modulus.kp T.b_short_modulus .nil (passes_call (takes_of rfl rfl rfl rfl) fun _ _ _ _ h => h) (pa_cons (pv 0) (pa_cons (pv 1) pa_nil))))
      (pss_one (ps_ret (pe_make T.K_SizeSet (ok_SizeSetu__initu_ T) (hr.mono (by decide)) (by rfl) T.m_SizeSet T.b_SizeSetu__initu_ .nil pass0 (pa_cons (pe_listRg (by rfl) (by rfl) T.n_list (prg_2 (by rfl) T.n_range pe_int (pv 2))) (pa_cons (pv 2) (pa_cons pe_int (pa_cons (pe_lst pa_nil) pa_nil)))))))), ?_⟩
      try dsimp only [L2.cxOf, L2.Cx.nox, L2.Cx.wish]
      try rw [st_right_lags]
      with_reducible refine Rd.seq (Rd.asg (Rd.call (Rd.cons (Rd.var (by walk_at "vr") (Rd.cons (Rd.var (by walk_at "vr") (Rd.nil ?_)))))))
      refine ⟨_, _, _, rfl, hsch, wf, n1, n2, hm, hl, .inl ⟨m2, ?_⟩⟩
      with_reducible refine Rd.name ?_
      try dsimp only [Int.reduceToNat, List.set]
      with_reducible refine Rd.ret (Rd.make (Rd.cons (Rd.lrg (Rd.c (Rd.var (by walk_at "vr") ?_)))))
      refine ⟨_, _, rfl, rfl, RgOk.of_le (by omega) (by omega) (by omega) (by omega), fun c1 nc1 => ?_⟩
      rw [Rd.rgV_eq]
      with_reducible refine Rd.cons (Rd.var (by walk_at "vr") (Rd.cons (Rd.c (Rd.cons (Rd.lst (Rd.nil (Rd.laid (by walk_at "ll") ?_)))))))
      intro p0 np0
      with_reducible refine Rd.nil ?_
      intro x1 dx1 nx1 ndx1 ne1
      refine ⟨_, _, _, _, rowsR (modV t.wrap n), rfl, L2.upd_same, (by show _ = some (L2.HO.lst ((Rd.rgI 1 (modV t.wrap n)).map V.int)); walk_at "hp"), (by show _ = some (L2.HO.lst []); walk_at "hp"), (rowsR_ok hm), (by show modV t.wrap n ≤ 2000; omega), (by show (1 : Int) ≤ 2000; omega), fun t9 H9 F9 ca9 sn9 => ⟨rfl, ?_⟩⟩
      exact k _ _ _ (by walk_at "frm") (by walk_at "nn") ca9 (SetNew.mono (fun a o e => by walk_at "hp") sn9)
    · skip
      refine ⟨_, (pss_cons (ps_set (i := 2) sc_right_lags.nd rfl (Or.inl rfl) (pe_call (ok_short_modulus T) (hr.mono (by decide)) (by rfl) T.m_short_modulus T.F_short_modulus.kp T.b_short_modulus .nil (passes_call (takes_of rfl rfl rfl rfl) fun _ _ _ _ h => h) (pa_cons (pv 0) (pa_cons (pv 1) pa_nil))))
      (pss_one ps_never)), ?_⟩
      try dsimp only [L2.cxOf, L2.Cx.nox, L2.Cx.wish]
      try rw [st_right_lags]
      with_reducible refine Rd.seq (Rd.asg (Rd.call (Rd.cons (Rd.var (by walk_at "vr") (Rd.cons (Rd.var (by walk_at "vr") (Rd.nil ?_)))))))
      refine ⟨_, _, _, rfl, hsch, wf, n1, n2, hm, hl, .inr ⟨m2, fun H1 S1 => k _ (by walk_at "frm")⟩⟩
/-! place_lags -/
theorem sc_place_lags : FnScope ["scheme", "n", "modulus"] ["scheme", "n"] (defScope s_place_lags) := ⟨rfl, rfl, rfl, by decide +kernel, rfl, by decide +kernel, by decide +kernel⟩
theorem st_place_lags {v0 v1 : V} : L2.start ["scheme", "n", "modulus"] [v0, v1] = [some v0, some v1, none] := rfl
abbrev sp_place_lags (K : PySem.W.Frag) (A : Adr) : Sp := fun vs H Q E => ∃ (p : Addr) (t : Pt) (n : Int), vs = [.ref p, .int n] ∧ IsScheme A H p t ∧ Wf t ∧ 1 ≤ n ∧ n ≤ 1000000000000000000000000000000 ∧ 1 ≤ modV t.wrap n ∧ LogOk t n ∧ ((modV t.wrap n ≤ 2000 ∧ ∀ (q : Addr) (t9 : Rows) (H' : Hp), Same H H' → H q = none → Canon (rowsP n (modV t.wrap n)) t9 → SetNew A H H' q (rowsP n (modV t.wrap n)) t9 → Q (.ref q) H') ∨ (2000 < modV t.wrap n ∧ ∀ H1, Same H H1 → E (.ref A.c_TooLong) none H1))
theorem ok_place_lags (T : Txt w K mg A) : FnOk P w K mg base (L2.CX P w) 8 A.f_place_lags A.d_place_lags ["scheme", "n"] (sp_place_lags K A) := by
  refine T.F_place_lags.okX sc_place_lags (fun vs H Q E h => ?_) (fun cdv Ar outer s H vs Q E hr h => ?_)
  · obtain ⟨p, t, n, rfl, hsch, wf, n1, n2, hm, hl, hk⟩ := h
    rfl
  · obtain ⟨p, t, n, rfl, hsch, wf, n1, n2, hm, hl, hk⟩ := h
    have hu := hu_of hr
    have t_q_PART_NAMES := T.q_PART_NAMES
    have t_q_PART_WORDS_slot := T.q_PART_WORDS_slot
    have t_d_PART_WORDS_slot := T.d_PART_WORDS_slot
    have t_q_PART_WORDS_empty := T.q_PART_WORDS_empty
    have t_d_PART_WORDS_empty := T.d_PART_WORDS_empty
    have t_q_PART_WORDS_when := T.q_PART_WORDS_when
    have t_d_PART_WORDS_when := T.d_PART_WORDS_when
    have t_q_MEASURES := T.q_MEASURES
    have t_q_SIGNS := T.q_SIGNS
    have t_q_PLAIN_FULLS := T.q_PLAIN_FULLS
    have t_i_Form := T.i_Form
    have t_kt_Form_Form := T.kt_Form_Form
    have t_kt_int_Form := T.kt_int_Form
    have t_i_SizeSet := T.i_SizeSet
    have t_kt_SizeSet_SizeSet := T.kt_SizeSet_SizeSet
    have t_kt_tuple_SizeSet := T.kt_tuple_SizeSet
    have t_nf_Form_Form := T.nf_Form_Form
    have t_nf_int_Form := T.nf_int_Form
    have t_nf_SizeSet_SizeSet := T.nf_SizeSet_SizeSet
    have t_nf_tuple_SizeSet := T.nf_tuple_SizeSet
    have t_xm_NoSize_NoSize := T.xm_NoSize_NoSize
    have t_xm_NoRing_NoSize := T.xm_NoRing_NoSize
    have t_xm_NoRing_NoRing := T.xm_NoRing_NoRing
    have t_xm_NotDecided_NoSize := T.xm_NotDecided_NoSize
    have t_xm_NotDecided_NoRing := T.xm_NotDecided_NoRing
    have t_xm_NotDecided_NotDecided := T.xm_NotDecided_NotDecided
    have t_xm_NoLag_NoSize := T.xm_NoLag_NoSize
    have t_xm_NoLag_NoRing := T.xm_NoLag_NoRing
    have t_xm_NoLag_NotDecided := T.xm_NoLag_NotDecided
    have t_xm_NoLag_NoLag := T.xm_NoLag_NoLag
    have t_xm_TooLong_TooLong := T.xm_TooLong_TooLong
    have t_k_Form := T.k_Form
    have t_k_Scheme := T.k_Scheme
    have t_k_Belief := T.k_Belief
    have t_k_SizeSet := T.k_SizeSet
    have nM := n_le_M hl n1 hm
    rcases hk with ⟨m2, k⟩ | ⟨m2, k⟩
    · skip
      refine ⟨_, (pss_cons (ps_set (i := 2) sc_place_lags.nd rfl (Or.inl rfl) (pe_call (ok_short_modulus T) (hr.mono (by decide)) (by rfl) T.m_short_modulus T.F_short_modulus.kp T.b_short_modulus .nil (passes_call (takes_of rfl rfl rfl rfl) fun _ _ _ _ h => h) (pa_cons (pv 0) (pa_cons (pv 1) pa_nil))))
      (pss_one (ps_ret (pe_make T.K_SizeSet (ok_SizeSetu__initu_ T) (hr.mono (by decide)) (by rfl) T.m_SizeSet T.b_SizeSetu__initu_ .nil pass0 (pa_cons (pe_listRg (by rfl) (by rfl) T.n_list (prg_2 (by rfl) T.n_range pe_int (pv 2))) (pa_cons (pv 2) (pa_cons (pv 2) (pa_cons (pe_listRg (by rfl) (by rfl) T.n_list (prg_2 (by rfl) T.n_range (pv 1) (pv 2))) pa_nil)))))))), ?_⟩
      try dsimp only [L2.cxOf, L2.Cx.nox, L2.Cx.wish]
      try rw [st_place_lags]
      with_reducible refine Rd.seq (Rd.asg (Rd.call (Rd.cons (Rd.var (by walk_at "vr") (Rd.cons (Rd.var (by walk_at "vr") (Rd.nil ?_)))))))
      refine ⟨_, _, _, rfl, hsch, wf, n1, n2, hm, hl, .inl ⟨m2, ?_⟩⟩
      with_reducible refine Rd.name ?_
      try dsimp only [Int.reduceToNat, List.set]
      with_reducible refine Rd.ret (Rd.make (Rd.cons (Rd.lrg (Rd.c (Rd.var (by walk_at "vr") ?_)))))
      refine ⟨_, _, rfl, rfl, RgOk.of_le (by omega) (by omega) (by omega) (by omega), fun c1 nc1 => ?_⟩
      rw [Rd.rgV_eq]
      with_reducible refine Rd.cons (Rd.var (by walk_at "vr") (Rd.cons (Rd.var (by walk_at "vr") (Rd.cons (Rd.lrg (Rd.var (by walk_at "vr") (Rd.var (by walk_at "vr") ?_)))))))
      refine ⟨_, _, rfl, rfl, RgOk.of_le (by omega) (by omega) (by omega) (by omega), fun c2 nc2 => ?_⟩
      rw [Rd.rgV_eq]
      with_reducible refine Rd.nil ?_
      intro x1 dx1 nx1 ndx1 ne1
      refine ⟨_, _, _, _, rowsP n (modV t.wrap n), rfl, L2.upd_same, (by show _ = some (L2.HO.lst ((Rd.rgI 1 (modV t.wrap n)).map V.int)); walk_at "hp"), (by show _ = some (L2.HO.lst ((Rd.rgI n (modV t.wrap n)).map V.int)); walk_at "hp"), (rowsP_ok n1 hm), (by show modV t.wrap n ≤ 2000; omega), (by show modV t.wrap n ≤ 2000; omega), fun t9 H9 F9 ca9 sn9 => ⟨rfl, ?_⟩⟩
      exact k _ _ _ (by walk_at "frm") (by walk_at "nn") ca9 (SetNew.mono (fun a o e => by walk_at "hp") sn9)
    · skip
      refine ⟨_, (pss_cons (ps_set (i := 2) sc_place_lags.nd rfl (Or.inl rfl) (pe_call (ok_short_modulus T) (hr.mono (by decide)) (by rfl) T.m_short_modulus T.F_short_modulus.kp T.b_short_modulus .nil (passes_call (takes_of rfl rfl rfl rfl) fun _ _ _ _ h => h) (pa_cons (pv 0) (pa_cons (pv 1) pa_nil))))
      (pss_one ps_never)), ?_⟩
      try dsimp only [L2.cxOf, L2.Cx.nox, L2.Cx.wish]
      try rw [st_place_lags]
      with_reducible refine Rd.seq (Rd.asg (Rd.call (Rd.cons (Rd.var (by walk_at "vr") (Rd.cons (Rd.var (by walk_at "vr") (Rd.nil ?_)))))))
      refine ⟨_, _, _, rfl, hsch, wf, n1, n2, hm, hl, .inr ⟨m2, fun H1 S1 => k _ (by walk_at "frm")⟩⟩
/-! is_small_form -/
theorem sc_is_small_form : FnScope ["thing"] ["thing"] (defScope s_is_small_form) := ⟨rfl, rfl, rfl, by decide +kernel, rfl, by decide +kernel, by decide +kernel⟩
def sp_is_small_form (P : Program) (w : World) (mg : Str → Option Value) (base : Heap) (K : PySem.W.Frag) (A : Adr) : Sp := fun vs H Q E => vs.length = 1 ∧ ∀ (cdv : Value) (Ar : Around) (outer : List Env) (s : Shared), Room 0 (Ar.deeper (PyProof.Rows.envOfC "is_small_form" (defScope s_is_small_form) s.heap.objs.size A.f_is_small_form cdv)) → ∃ t, PSs (cxOf CX0 P w K mg base ["thing"] "is_small_form" (defScope s_is_small_form) A.f_is_small_form cdv Ar outer s H E).nox (defBody s_is_small_form) t ∧ t { nx := fun _ H' => Q .non H', rt := Q } (start ["thing"] vs) H
theorem in_is_small_form {vs : List V} {H : Hp} {Q : VK} {E : XK} (h : ∀ (cdv : Value) (Ar : Around) (outer : List Env) (s : Shared), Room 0 (Ar.deeper (PyProof.Rows.envOfC "is_small_form" (defScope s_is_small_form) s.heap.objs.size A.f_is_small_form cdv)) → ∃ t, PSs (cxOf CX0 P w K mg base ["thing"] "is_small_form" (defScope s_is_small_form) A.f_is_small_form cdv Ar outer s H E).nox (defBody s_is_small_form) t ∧ t { nx := fun _ H' => Q .non H', rt := Q } (start ["thing"] vs) H) (e : vs.length = 1) : sp_is_small_form P w mg base K A vs H Q E := ⟨e, h⟩
theorem ok_is_small_form (T : Txt w K mg A) : FnOk P w K mg base CX0 1 A.f_is_small_form A.d_is_small_form ["thing"] (sp_is_small_form P w mg base K A) := T.F_is_small_form.ok sc_is_small_form (fun _ _ _ _ h => h.1) (fun cdv Ar outer s H vs Q E hr h => h.2 cdv Ar outer s hr)
/-! is_full -/
theorem sc_is_full : FnScope ["thing"] ["thing"] (defScope s_is_full) := ⟨rfl, rfl, rfl, by decide +kernel, rfl, by decide +kernel, by decide +kernel⟩
def sp_is_full (P : Program) (w : World) (mg : Str → Option Value) (base : Heap) (K : PySem.W.Frag) (A : Adr) : Sp := fun vs H Q E => vs.length = 1 ∧ ∀ (cdv : Value) (Ar : Around) (outer : List Env) (s : Shared), Room 1 (Ar.deeper (PyProof.Rows.envOfC "is_full" (defScope s_is_full) s.heap.objs.size A.f_is_full cdv)) → ∃ t, PSs (cxOf CX0 P w K mg base ["thing"] "is_full" (defScope s_is_full) A.f_is_full cdv Ar outer s H E).nox (defBody s_is_full) t ∧ t { nx := fun _ H' => Q .non H', rt := Q } (start ["thing"] vs) H
theorem in_is_full {vs : List V} {H : Hp} {Q : VK} {E : XK} (h : ∀ (cdv : Value) (Ar : Around) (outer : List Env) (s : Shared), Room 1 (Ar.deeper (PyProof.Rows.envOfC "is_full" (defScope s_is_full) s.heap.objs.size A.f_is_full cdv)) → ∃ t, PSs (cxOf CX0 P w K mg base ["thing"] "is_full" (defScope s_is_full) A.f_is_full cdv Ar outer s H E).nox (defBody s_is_full) t ∧ t { nx := fun _ H' => Q .non H', rt := Q } (start ["thing"] vs) H) (e : vs.length = 1) : sp_is_full P w mg base K A vs H Q E := ⟨e, h⟩
theorem ok_is_full (T : Txt w K mg A) : FnOk P w K mg base CX0 2 A.f_is_full A.d_is_full ["thing"] (sp_is_full P w mg base K A) := T.F_is_full.ok sc_is_full (fun _ _ _ _ h => h.1) (fun cdv Ar outer s H vs Q E hr h => h.2 cdv Ar outer s hr)
/-! is_wrap -/
theorem sc_is_wrap : FnScope ["thing"] ["thing"] (defScope s_is_wrap) := ⟨rfl, rfl, rfl, by decide +kernel, rfl, by decide +kernel, by decide +kernel⟩
def sp_is_wrap (P : Program) (w : World) (mg : Str → Option Value) (base : Heap) (K : PySem.W.Frag) (A : Adr) : Sp := fun vs H Q E => vs.length = 1 ∧ ∀ (cdv : Value) (Ar : Around) (outer : List Env) (s : Shared), Room 2 (Ar.deeper (PyProof.Rows.envOfC "is_wrap" (defScope s_is_wrap) s.heap.objs.size A.f_is_wrap cdv)) → ∃ t, PSs (cxOf CX0 P w K mg base ["thing"] "is_wrap" (defScope s_is_wrap) A.f_is_wrap cdv Ar outer s H E).nox (defBody s_is_wrap) t ∧ t { nx := fun _ H' => Q .non H', rt := Q } (start ["thing"] vs) H
theorem in_is_wrap {vs : List V} {H : Hp} {Q : VK} {E : XK} (h : ∀ (cdv : Value) (Ar : Around) (outer : List Env) (s : Shared), Room 2 (Ar.deeper (PyProof.Rows.envOfC "is_wrap" (defScope s_is_wrap) s.heap.objs.size A.f_is_wrap cdv)) → ∃ t, PSs (cxOf CX0 P w K mg base ["thing"] "is_wrap" (defScope s_is_wrap) A.f_is_wrap cdv Ar outer s H E).nox (defBody s_is_wrap) t ∧ t { nx := fun _ H' => Q .non H', rt := Q } (start ["thing"] vs) H) (e : vs.length = 1) : sp_is_wrap P w mg base K A vs H Q E := ⟨e, h⟩
theorem ok_is_wrap (T : Txt w K mg A) : FnOk P w K mg base CX0 3 A.f_is_wrap A.d_is_wrap ["thing"] (sp_is_wrap P w mg base K A) := T.F_is_wrap.ok sc_is_wrap (fun _ _ _ _ h => h.1) (fun cdv Ar outer s H vs Q E hr h => h.2 cdv Ar outer s hr)
/-! is_part -/
theorem sc_is_part : FnScope ["part", "thing"] ["part", "thing"] (defScope s_is_part) := ⟨rfl, rfl, rfl, by decide +kernel, rfl, by decide +kernel, by decide +kernel⟩
def sp_is_part (P : Program) (w : World) (mg : Str → Option Value) (base : Heap) (K : PySem.W.Frag) (A : Adr) : Sp := fun vs H Q E => vs.length = 2 ∧ ∀ (cdv : Value) (Ar : Around) (outer : List Env) (s : Shared), Room 3 (Ar.deeper (PyProof.Rows.envOfC "is_part" (defScope s_is_part) s.heap.objs.size A.f_is_part cdv)) → ∃ t, PSs (cxOf CX0 P w K mg base ["part", "thing"] "is_part" (defScope s_is_part) A.f_is_part cdv Ar outer s H E).nox (defBody s_is_part) t ∧ t { nx := fun _ H' => Q .non H', rt := Q } (start ["part", "thing"] vs) H
theorem in_is_part {vs : List V} {H : Hp} {Q : VK} {E : XK} (h : ∀ (cdv : Value) (Ar : Around) (outer : List Env) (s : Shared), Room 3 (Ar.deeper (PyProof.Rows.envOfC "is_part" (defScope s_is_part) s.heap.objs.size A.f_is_part cdv)) → ∃ t, PSs (cxOf CX0 P w K mg base ["part", "thing"] "is_part" (defScope s_is_part) A.f_is_part cdv Ar outer s H E).nox (defBody s_is_part) t ∧ t { nx := fun _ H' => Q .non H', rt := Q } (start ["part", "thing"] vs) H) (e : vs.length = 2) : sp_is_part P w mg base K A vs H Q E := ⟨e, h⟩
theorem ok_is_part (T : Txt w K mg A) : FnOk P w K mg base CX0 4 A.f_is_part A.d_is_part ["part", "thing"] (sp_is_part P w mg base K A) := T.F_is_part.ok sc_is_part (fun _ _ _ _ h => h.1) (fun cdv Ar outer s H vs Q E hr h => h.2 cdv Ar outer s hr)
/-! first_wrong -/
theorem sc_first_wrong : FnScope ["parts", "part"] ["parts"] (defScope s_first_wrong) := ⟨rfl, rfl, rfl, by decide +kernel, rfl, by decide +kernel, by decide +kernel⟩
def sp_first_wrong (P : Program) (w : World) (mg : Str → Option Value) (base : Heap) (K : PySem.W.Frag) (A : Adr) : Sp := fun vs H Q E => vs.length = 1 ∧ ∀ (cdv : Value) (Ar : Around) (outer : List Env) (s : Shared), Room 4 (Ar.deeper (PyProof.Rows.envOfC "first_wrong" (defScope s_first_wrong) s.heap.objs.size A.f_first_wrong cdv)) → ∃ t, PSs (cxOf CX0 P w K mg base ["parts", "part"] "first_wrong" (defScope s_first_wrong) A.f_first_wrong cdv Ar outer s H E).nox (defBody s_first_wrong) t ∧ t { nx := fun _ H' => Q .non H', rt := Q } (start ["parts", "part"] vs) H
theorem in_first_wrong {vs : List V} {H : Hp} {Q : VK} {E : XK} (h : ∀ (cdv : Value) (Ar : Around) (outer : List Env) (s : Shared), Room 4 (Ar.deeper (PyProof.Rows.envOfC "first_wrong" (defScope s_first_wrong) s.heap.objs.size A.f_first_wrong cdv)) → ∃ t, PSs (cxOf CX0 P w K mg base ["parts", "part"] "first_wrong" (defScope s_first_wrong) A.f_first_wrong cdv Ar outer s H E).nox (defBody s_first_wrong) t ∧ t { nx := fun _ H' => Q .non H', rt := Q } (start ["parts", "part"] vs) H) (e : vs.length = 1) : sp_first_wrong P w mg base K A vs H Q E := ⟨e, h⟩
theorem ok_first_wrong (T : Txt w K mg A) : FnOk P w K mg base CX0 5 A.f_first_wrong A.d_first_wrong ["parts"] (sp_first_wrong P w mg base K A) := T.F_first_wrong.ok sc_first_wrong (fun _ _ _ _ h => h.1) (fun cdv Ar outer s H vs Q E hr h => h.2 cdv Ar outer s hr)
/-! Scheme.__init__ -/
theorem sc_Schemeu__initu_ : FnScope ["self", "wrap", "slot", "empty", "full", "when", "parts", "wrong"] ["self", "wrap", "slot", "empty", "full", "when"] (defScope s_Schemeu__initu_) := ⟨rfl, rfl, rfl, by decide +kernel, rfl, by decide +kernel, by decide +kernel⟩
theorem st_Schemeu__initu_ {v0 v1 v2 v3 v4 v5 : V} : L2.start ["self", "wrap", "slot", "empty", "full", "when", "parts", "wrong"] [v0, v1, v2, v3, v4, v5] = [some v0, some v1, some v2, some v3, some v4, some v5, none, none] := rfl
abbrev sp_Schemeu__initu_ (K : PySem.W.Frag) (A : Adr) : Sp := fun vs H Q _ => ∃ (p dx : Addr) (vw vf : V) (t : Pt), vs = [.ref p, vw, .str t.slot, .str t.empty, vf, .str t.wen] ∧ H p = some (.ins A.c_Scheme dx []) ∧ IsWrap A H vw t.wrap ∧ IsFull A H vf t.full ∧ Wf t ∧ ∀ (d : Addr) (H' : Hp), Frm p H H' → H d = none → H' p = some (.ins A.c_Scheme dx (fS d)) → H' d = some (.dK (kvP vw t.slot t.empty vf t.wen)) → Q .non H'
theorem ok_Schemeu__initu_ (T : Txt w K mg A) : FnOk P w K mg base CX0 6 A.f_Schemeu__initu_ A.d_Schemeu__initu_ ["self", "wrap", "slot", "empty", "full", "when"] (sp_Schemeu__initu_ K A) := by
  refine T.F_Schemeu__initu_.ok sc_Schemeu__initu_ (fun vs H Q E h => ?_) (fun cdv Ar outer s H vs Q E hr h => ?_)
  · obtain ⟨p, dx, vw, vf, ⟨wr, sl, em, fl, wn⟩, rfl, hp, hw, hf, hwf, k⟩ := h
    rfl
  · obtain ⟨p, dx, vw, vf, ⟨wr, sl, em, fl, wn⟩, rfl, hp, hw, hf, hwf, k⟩ := h
    have hu := hu_of hr
    have t_q_PART_NAMES := T.q_PART_NAMES
    have t_q_PART_WORDS_slot := T.q_PART_WORDS_slot
    have t_d_PART_WORDS_slot := T.d_PART_WORDS_slot
    have t_q_PART_WORDS_empty := T.q_PART_WORDS_empty
    have t_d_PART_WORDS_empty := T.d_PART_WORDS_empty
    have t_q_PART_WORDS_when := T.q_PART_WORDS_when
    have t_d_PART_WORDS_when := T.d_PART_WORDS_when
    have t_q_MEASURES := T.q_MEASURES
    have t_q_SIGNS := T.q_SIGNS
    have t_q_PLAIN_FULLS := T.q_PLAIN_FULLS
    have t_i_Form := T.i_Form
    have t_kt_Form_Form := T.kt_Form_Form
    have t_kt_int_Form := T.kt_int_Form
    have t_i_SizeSet := T.i_SizeSet
    have t_kt_SizeSet_SizeSet := T.kt_SizeSet_SizeSet
    have t_kt_tuple_SizeSet := T.kt_tuple_SizeSet
    have t_nf_Form_Form := T.nf_Form_Form
    have t_nf_int_Form := T.nf_int_Form
    have t_nf_SizeSet_SizeSet := T.nf_SizeSet_SizeSet
    have t_nf_tuple_SizeSet := T.nf_tuple_SizeSet
    have t_xm_NoSize_NoSize := T.xm_NoSize_NoSize
    have t_xm_NoRing_NoSize := T.xm_NoRing_NoSize
    have t_xm_NoRing_NoRing := T.xm_NoRing_NoRing
    have t_xm_NotDecided_NoSize := T.xm_NotDecided_NoSize
    have t_xm_NotDecided_NoRing := T.xm_NotDecided_NoRing
    have t_xm_NotDecided_NotDecided := T.xm_NotDecided_NotDecided
    have t_xm_NoLag_NoSize := T.xm_NoLag_NoSize
    have t_xm_NoLag_NoRing := T.xm_NoLag_NoRing
    have t_xm_NoLag_NotDecided := T.xm_NoLag_NotDecided
    have t_xm_NoLag_NoLag := T.xm_NoLag_NoLag
    have t_xm_TooLong_TooLong := T.xm_TooLong_TooLong
    have t_k_Form := T.k_Form
    have t_k_Scheme := T.k_Scheme
    have t_k_Belief := T.k_Belief
    have t_k_SizeSet := T.k_SizeSet
    obtain ⟨w1, w2, w3, w4, w5, w6⟩ := hwf
    dsimp only at w1 w2 w3 w4 w5 w6 hw hf k
    rcases wr with w | ⟨s, b⟩ <;> rcases fl with kk | ⟨kk, g, s2, b2⟩ <;> rcases Decidable.em (sl = "mask") with hm | hm
    any_goals (first | exact absurd hm (w6 _ _ rfl) | skip)
    · have hw : vw = .int w := hw
      subst hw
      have w1 : 1 ≤ w ∧ w ≤ 100 := w1
      obtain ⟨pf, rfl, hpf⟩ := hf
      have i4 : inV (.str kk) [.str "next", .str "note"] = true := Rd.inW (ws := ["next", "note"]) w4
      have n4 : (!inV (.str kk) [.str "next", .str "note"]) = false := Rd.notF i4
      have i2 : (!inV (.str sl) [.str "rest", .str "off", .str "mask"]) = false := Rd.notF (Rd.inW (ws := ["rest", "off", "mask"]) w2)
      have i3 : (!inV (.str em) [.str "same", .str "count", .str "note"]) = false := Rd.notF (Rd.inW (ws := ["same", "count", "note"]) w3)
      have i6 : (!inV (.str wn) [.str "refuse", .str "drop", .str "over"]) = false := Rd.notF (Rd.inW (ws := ["refuse", "drop", "over"]) w5)
      have m1 : decide (V.str sl = V.str "mask") = true := decide_eq_true (by rw [hm])
      refine ⟨_, (pss_cons (ps_set (i := 6) sc_Schemeu__initu_.nd rfl (Or.inl rfl) (pe_disp (pps_cons pe_str (pv 1) (pps_cons pe_str (pv 2) (pps_cons pe_str (pv 3) (pps_cons pe_str (pv 4) (pps_cons pe_str (pv 5) pps_nil))))) rfl rfl (by simp) (by decide)))
      (pss_cons (ps_set (i := 7) sc_Schemeu__initu_.nd rfl (Or.inl rfl) (pe_call (ok_first_wrong T) (hr.mono (by decide)) (by rfl) T.m_first_wrong T.F_first_wrong.kp T.b_first_wrong .nil pass0 (pa_cons (pv 6) pa_nil)))
      (pss_cons (ps_if (pt_cmpR op_notN (pv 7) pe_non (nomark _)) (pss_one ps_never) pss_nil)
      (pss_one (ps_fld (pv 0) (pv 6) rfl))))), ?_⟩
      try dsimp only [L2.cxOf, L2.Cx.nox, L2.Cx.wish]
      try rw [st_Schemeu__initu_]
      with_reducible refine Rd.seq (Rd.asg ?_)
      refine Rd.disp5 (fun _ _ h => Rd.var (by walk_at "vr") h) (fun _ _ h => Rd.var (by walk_at "vr") h) (fun _ _ h => Rd.var (by walk_at "vr") h) (fun _ _ h => Rd.var (by walk_at "vr") h) (fun _ _ h => Rd.var (by walk_at "vr") h) ?_
      intro pd366_16 npd366_16
      rw [kvP_merge]
      with_reducible refine Rd.name ?_
      try dsimp only [Int.reduceToNat, List.set]
      with_reducible refine Rd.seq (Rd.asg (Rd.call (Rd.cons (Rd.var (by walk_at "vr") (Rd.nil ?_)))))
      refine in_first_wrong (fun cdv Ar outer s hr => ?_) rfl
      have hu := hu_of hr
      refine ⟨_, (pss_cons (ps_for PassesOwn.never rfl (pi_tup (pe_glob (v := .ref A.t_PART_NAMES) rfl T.m_PART_NAMES rfl)) (pg_name (i := 1) sc_first_wrong.nd rfl (Or.inl rfl)) (pss_cons (ps_if (pt_not (pt_val (pe_call (ok_is_part T) (hr.mono (by decide)) (by rfl) T.m_is_part T.F_is_part.kp T.b_is_part .nil pass0 (pa_cons (pv 1) (pa_cons (pe_dget hu (pv 0) (pv 1) (fun _ _ => rfl)) pa_nil))))) (pss_one ps_never) pss_nil) (pss_one (ps_if (PW.pt (pw_and (pt_cmpR op_eq (pv 1) pe_str (nomark _)) (pw_and (pt_cmpR op_eq (pe_dget hu (pv 0) pe_str (fun _ _ => rfl)) pe_str (nomark _)) (pw_and1 (pt_val (pe_callB (Rd.isi (K := K) rfl) (by rfl) T.n_isinstance (by decide +kernel) (pa_cons (pe_dget hu (pv 0) pe_str (fun _ _ => rfl)) (pa_cons (pe_glob (v := .ref A.c_Form) rfl T.m_Form rfl) pa_nil)))))))) (pss_one ps_never) pss_nil))))
            (pss_one (ps_ret pe_non))), ?_⟩
      try dsimp only [L2.cxOf, L2.Cx.nox, L2.Cx.wish]
      with_reducible refine Rd.seq (Rd.fr (Rd.it (Rd.c (⟨_, rfl, ?_⟩))))
      refine Rd.unrollT (by walk_at "hpt") ?_
      refine Rd.unrTCons ?_
      with_reducible refine Rd.name ?_
      dsimp only [List.set]
      with_reducible refine Rd.seq (Rd.ifS (Rd.not (Rd.tb (Rd.call (Rd.cons (Rd.var (by walk_at "vr") (Rd.cons (Rd.dget (Rd.var (by walk_at "vr") (Rd.var (by walk_at "vr") ?_))))))))))
      refine Rd.dget2 (by walk_at "hp") (by walk_at "dl") ?_
      with_reducible refine Rd.nil ?_
      refine in_is_part (fun cdv Ar outer s hr => ?_) rfl
      have hu := hu_of hr
      refine ⟨_, (pss_cons (ps_if (pt_cmpR op_eq (pv 0) pe_str (nomark _)) (pss_one (ps_ret (pe_call (ok_is_wrap T) (hr.mono (by decide)) (by rfl) T.m_is_wrap T.F_is_wrap.kp T.b_is_wrap .nil pass0 (pa_cons (pv 1) pa_nil)))) pss_nil)
            (pss_cons ps_never (pss_one ps_never))), ?_⟩
      try dsimp only [L2.cxOf, L2.Cx.nox, L2.Cx.wish]
      with_reducible refine Rd.seq (Rd.ifS (Rd.test (Rd.op (Rd.var (by walk_at "vr") (Rd.c (Rd.eqS (by walk_at "vr") (Rd.bl (Rd.iteT (by first | with_unfolding_all rfl | walk_at "bT") (Rd.ret (Rd.call (Rd.cons ?_)))))))))))
      with_reducible refine Rd.var (by walk_at "vr") (Rd.nil ?_)
      refine in_is_wrap (fun cdv Ar outer s hr => ?_) rfl
      have hu := hu_of hr
      refine ⟨_, (pss_one (ps_ret (pe_or (pe_call (ok_is_small_form T) (hr.mono (by decide)) (by rfl) T.m_is_small_form T.F_is_small_form.kp T.b_is_small_form .nil pass0 (pa_cons (pv 0) pa_nil)) (pe_one (pe_call (ok_is_whole_from T) (hr.mono (by decide)) (by rfl) T.m_is_whole_from T.F_is_whole_from.kp T.b_is_whole_from .nil pass0 (pa_cons (pv 0) (pa_cons pe_int (pa_cons (pe_glob (v := .int (100)) rfl T.m_GREATEST_WIDTH ⟨_, rfl⟩) pa_nil)))))))), ?_⟩
      try dsimp only [L2.cxOf, L2.Cx.nox, L2.Cx.wish]
      with_reducible refine Rd.ret (Rd.orV (Rd.call (Rd.cons (Rd.var (by walk_at "vr") (Rd.nil ?_)))))
      refine in_is_small_form (fun cdv Ar outer s hr => ?_) rfl
      have hu := hu_of hr
      refine ⟨_, (pss_cons (ps_if (pt_not (pt_val (pe_callB (Rd.isi (K := K) rfl) (by rfl) T.n_isinstance (by decide +kernel) (pa_cons (pv 0) (pa_cons (pe_glob (v := .ref A.c_Form) rfl T.m_Form rfl) pa_nil))))) (pss_one (ps_ret pe_bl)) pss_nil)
            (pss_one ps_never)), ?_⟩
      try dsimp only [L2.cxOf, L2.Cx.nox, L2.Cx.wish]
      with_reducible refine Rd.seq (Rd.ifS (Rd.not (Rd.tb (Rd.cB (Rd.cons (Rd.var (by walk_at "vr") (Rd.cons (Rd.c (Rd.nil ?_)))))))))
      refine ⟨_, _, _, _, _, rfl, (by walk_at "clsv"), (by walk_at "tyx"), (by walk_at "kit"), ?_⟩
      with_reducible refine Rd.bl (Rd.iteT (by first | with_unfolding_all rfl | walk_at "bT") (Rd.ret (Rd.c (Rd.bl (Rd.iteF (by first | with_unfolding_all rfl | walk_at "bF") (Rd.call (Rd.cons (Rd.var (by walk_at "vr") (Rd.cons (Rd.c (Rd.cons ?_)))))))))))
      with_reducible refine Rd.c (Rd.nil ?_)
      refine ⟨_, _, _, rfl, .inl ⟨_, rfl, (by walk_at "sc"), (by walk_at "sc"), ?_⟩⟩
      with_reducible refine Rd.bl (Rd.iteF (by walk_at "bF") (Rd.next (Rd.ifS (Rd.and (Rd.test (Rd.op (Rd.var (by walk_at "vr") (Rd.c (Rd.eqS (by walk_at "vr") (Rd.bl (Rd.iteF (by first | with_unfolding_all rfl | walk_at "bF") ?_)))))))))))
      with_reducible refine Rd.iteF rfl (Rd.next ?_)
      refine ⟨by walk_at "hpt", ?_⟩
      refine Rd.unrTCons ?_
      with_reducible refine Rd.name ?_
      dsimp only [List.set]
      with_reducible refine Rd.seq (Rd.ifS (Rd.not (Rd.tb (Rd.call (Rd.cons (Rd.var (by walk_at "vr") (Rd.cons (Rd.dget (Rd.var (by walk_at "vr") (Rd.var (by walk_at "vr") ?_))))))))))
      refine Rd.dget2 (by walk_at "hp") (by walk_at "dl") ?_
      with_reducible refine Rd.nil ?_
      refine in_is_part (fun cdv Ar outer s hr => ?_) rfl
      have hu := hu_of hr
      refine ⟨_, (pss_cons (ps_if (pt_cmpR op_eq (pv 0) pe_str (nomark _)) (pss_one ps_never) pss_nil)
            (pss_cons (ps_if (pt_cmpR op_eq (pv 0) pe_str (nomark _)) (pss_one ps_never) pss_nil)
            (pss_one (ps_ret (pe_call (ok_is_word_of T) (hr.mono (by decide)) (by rfl) T.m_is_word_of T.F_is_word_of.kp T.b_is_word_of .nil pass0 (pa_cons (pv 1) (pa_cons (pe_ix ix_kdict (pe_glob (v := .ref A.t_PART_WORDS) rfl T.m_PART_WORDS rfl) (pv 0) (fun _ _ => rfl)) pa_nil))))))), ?_⟩
      try dsimp only [L2.cxOf, L2.Cx.nox, L2.Cx.wish]
      with_reducible refine Rd.seq (Rd.ifS (Rd.test (Rd.op (Rd.var (by walk_at "vr") (Rd.c (Rd.eqS (by walk_at "vr") (Rd.bl (Rd.iteF (by first | with_unfolding_all rfl | walk_at "bF") (Rd.next (Rd.seq (Rd.ifS ?_)))))))))))
      with_reducible refine Rd.test (Rd.op (Rd.var (by walk_at "vr") (Rd.c (Rd.eqS (by walk_at "vr") (Rd.bl (Rd.iteF (by first | with_unfolding_all rfl | walk_at "bF") (Rd.next (Rd.ret (Rd.call (Rd.cons (Rd.var (by walk_at "vr") ?_)))))))))))
      with_reducible refine Rd.cons (Rd.op (Rd.c (Rd.var (by walk_at "vr") ?_)))
      refine ⟨_, _, _, rfl, rfl, T.d_PART_WORDS_slot, ?_⟩
      with_reducible refine Rd.nil ?_
      refine in_is_word_of (fun cdv Ar outer s hr => ?_) rfl
      have hu := hu_of hr
      refine ⟨_, (pss_one (ps_ret (pe_and (pe_callB (Rd.isi (K := K) rfl) (by rfl) T.n_isinstance (by decide +kernel) (pa_cons (pv 0) (pa_cons (pe_bltn (v := .ty "str") (u := .type "str") (by rfl) T.n_str (by decide +kernel) rfl) pa_nil))) (pe_one (pe_cmpR op_in_seq (pv 0) (pv 1) (by with_unfolding_all rfl)))))), ?_⟩
      try dsimp only [L2.cxOf, L2.Cx.nox, L2.Cx.wish]
      with_reducible refine Rd.ret (Rd.andV (Rd.cB (Rd.cons (Rd.var (by walk_at "vr") (Rd.cons (Rd.c (Rd.nil ?_)))))))
      refine ⟨_, _, _, _, _, rfl, (by walk_at "clsv"), (by walk_at "tyx"), (by walk_at "kit"), ?_⟩
      with_reducible refine Rd.bl (Rd.iteT (by first | with_unfolding_all rfl | walk_at "bT") (Rd.op (Rd.var (by walk_at "vr") (Rd.var (by walk_at "vr") ?_))))
      refine Rd.inT (.inr (by walk_at "hpt")) rfl (by walk_at "flt") ?_
      with_reducible refine Rd.bl (Rd.iteF (by walk_at "bF") (Rd.next (Rd.ifS (Rd.and (Rd.test (Rd.op (Rd.var (by walk_at "vr") (Rd.c (Rd.eqS (by walk_at "vr") (Rd.bl (Rd.iteT (by first | with_unfolding_all rfl | walk_at "bT") ?_)))))))))))
      with_reducible refine Rd.and (Rd.test (Rd.op (Rd.dget (Rd.var (by walk_at "vr") (Rd.c ?_)))))
      refine Rd.dget2 (by walk_at "hp") (by walk_at "dl") ?_
      with_reducible refine Rd.c (Rd.eqS (by walk_at "vr") (Rd.bl (Rd.iteT (by walk_at "bT") (Rd.tb (Rd.cB (Rd.cons (Rd.dget (Rd.var (by walk_at "vr") (Rd.c ?_)))))))))
      refine Rd.dget2 (by walk_at "hp") (by walk_at "dl") ?_
      with_reducible refine Rd.cons (Rd.c (Rd.nil ?_))
      refine ⟨_, _, _, _, _, rfl, (by walk_at "clsv"), (by walk_at "tyx"), (by walk_at "kit"), ?_⟩
      with_reducible refine Rd.bl (Rd.iteF (by first | with_unfolding_all rfl | walk_at "bF") (Rd.next ?_))
      refine ⟨by walk_at "hpt", ?_⟩
      refine Rd.unrTCons ?_
      with_reducible refine Rd.name ?_
      dsimp only [List.set]
      with_reducible refine Rd.seq (Rd.ifS (Rd.not (Rd.tb (Rd.call (Rd.cons (Rd.var (by walk_at "vr") (Rd.cons (Rd.dget (Rd.var (by walk_at "vr") (Rd.var (by walk_at "vr") ?_))))))))))
      refine Rd.dget2 (by walk_at "hp") (by walk_at "dl") ?_
      with_reducible refine Rd.nil ?_
      refine in_is_part (fun cdv Ar outer s hr => ?_) rfl
      have hu := hu_of hr
      refine ⟨_, (pss_cons (ps_if (pt_cmpR op_eq (pv 0) pe_str (nomark _)) (pss_one ps_never) pss_nil)
            (pss_cons (ps_if (pt_cmpR op_eq (pv 0) pe_str (nomark _)) (pss_one ps_never) pss_nil)
            (pss_one (ps_ret (pe_call (ok_is_word_of T) (hr.mono (by decide)) (by rfl) T.m_is_word_of T.F_is_word_of.kp T.b_is_word_of .nil pass0 (pa_cons (pv 1) (pa_cons (pe_ix ix_kdict (pe_glob (v := .ref A.t_PART_WORDS) rfl T.m_PART_WORDS rfl) (pv 0) (fun _ _ => rfl)) pa_nil))))))), ?_⟩
      try dsimp only [L2.cxOf, L2.Cx.nox, L2.Cx.wish]
      with_reducible refine Rd.seq (Rd.ifS (Rd.test (Rd.op (Rd.var (by walk_at "vr") (Rd.c (Rd.eqS (by walk_at "vr") (Rd.bl (Rd.iteF (by first | with_unfolding_all rfl | walk_at "bF") (Rd.next (Rd.seq (Rd.ifS ?_)))))))))))
      with_reducible refine Rd.test (Rd.op (Rd.var (by walk_at "vr") (Rd.c (Rd.eqS (by walk_at "vr") (Rd.bl (Rd.iteF (by first | with_unfolding_all rfl | walk_at "bF") (Rd.next (Rd.ret (Rd.call (Rd.cons (Rd.var (by walk_at "vr") ?_)))))))))))
      with_reducible refine Rd.cons (Rd.op (Rd.c (Rd.var (by walk_at "vr") ?_)))
      refine ⟨_, _, _, rfl, rfl, T.d_PART_WORDS_empty, ?_⟩
      with_reducible refine Rd.nil ?_
      refine in_is_word_of (fun cdv Ar outer s hr => ?_) rfl
      have hu := hu_of hr
      refine ⟨_, (pss_one (ps_ret (pe_and (pe_callB (Rd.isi (K := K) rfl) (by rfl) T.n_isinstance (by decide +kernel) (pa_cons (pv 0) (pa_cons (pe_bltn (v := .ty "str") (u := .type "str") (by rfl) T.n_str (by decide +kernel) rfl) pa_nil))) (pe_one (pe_cmpR op_in_seq (pv 0) (pv 1) (by with_unfolding_all rfl)))))), ?_⟩
      try dsimp only [L2.cxOf, L2.Cx.nox, L2.Cx.wish]
      with_reducible refine Rd.ret (Rd.andV (Rd.cB (Rd.cons (Rd.var (by walk_at "vr") (Rd.cons (Rd.c (Rd.nil ?_)))))))
      refine ⟨_, _, _, _, _, rfl, (by walk_at "clsv"), (by walk_at "tyx"), (by walk_at "kit"), ?_⟩
      with_reducible refine Rd.bl (Rd.iteT (by first | with_unfolding_all rfl | walk_at "bT") (Rd.op (Rd.var (by walk_at "vr") (Rd.var (by walk_at "vr") ?_))))
      refine Rd.inT (.inr (by walk_at "hpt")) rfl (by walk_at "flt") ?_
      with_reducible refine Rd.bl (Rd.iteF (by walk_at "bF") (Rd.next (Rd.ifS (Rd.and (Rd.test (Rd.op (Rd.var (by walk_at "vr") (Rd.c (Rd.eqS (by walk_at "vr") (Rd.bl (Rd.iteF (by first | with_unfolding_all rfl | walk_at "bF") ?_)))))))))))
      with_reducible refine Rd.iteF rfl (Rd.next ?_)
      refine ⟨by walk_at "hpt", ?_⟩
      refine Rd.unrTCons ?_
      with_reducible refine Rd.name ?_
      dsimp only [List.set]
      with_reducible refine Rd.seq (Rd.ifS (Rd.not (Rd.tb (Rd.call (Rd.cons (Rd.var (by walk_at "vr") (Rd.cons (Rd.dget (Rd.var (by walk_at "vr") (Rd.var (by walk_at "vr") ?_))))))))))
      refine Rd.dget2 (by walk_at "hp") (by walk_at "dl") ?_
      with_reducible refine Rd.nil ?_
      refine in_is_part (fun cdv Ar outer s hr => ?_) rfl
      have hu := hu_of hr
      refine ⟨_, (pss_cons (ps_if (pt_cmpR op_eq (pv 0) pe_str (nomark _)) (pss_one ps_never) pss_nil)
            (pss_cons (ps_if (pt_cmpR op_eq (pv 0) pe_str (nomark _)) (pss_one (ps_ret (pe_call (ok_is_full T) (hr.mono (by decide)) (by rfl) T.m_is_full T.F_is_full.kp T.b_is_full .nil pass0 (pa_cons (pv 1) pa_nil)))) pss_nil)
            (pss_one ps_never))), ?_⟩
      try dsimp only [L2.cxOf, L2.Cx.nox, L2.Cx.wish]
      with_reducible refine Rd.seq (Rd.ifS (Rd.test (Rd.op (Rd.var (by walk_at "vr") (Rd.c (Rd.eqS (by walk_at "vr") (Rd.bl (Rd.iteF (by first | with_unfolding_all rfl | walk_at "bF") (Rd.next (Rd.seq (Rd.ifS ?_)))))))))))
      with_reducible refine Rd.test (Rd.op (Rd.var (by walk_at "vr") (Rd.c (Rd.eqS (by walk_at "vr") (Rd.bl (Rd.iteT (by first | with_unfolding_all rfl | walk_at "bT") (Rd.ret (Rd.call (Rd.cons (Rd.var (by walk_at "vr") (Rd.nil ?_)))))))))))
      refine in_is_full (fun cdv Ar outer s hr => ?_) rfl
      have hu := hu_of hr
      refine ⟨_, (pss_cons (ps_if (pt_not (pt_val (pe_callB (Rd.isi (K := K) rfl) (by rfl) T.n_isinstance (by decide +kernel) (pa_cons (pv 0) (pa_cons (pe_bltn (v := .ty "tuple") (u := .type "tuple") (by rfl) T.n_tuple (by decide +kernel) rfl) pa_nil))))) (pss_one ps_never) pss_nil)
            (pss_cons (ps_if (pt_cmpR op_eq (pe_callB call_len_seq (by rfl) T.n_len PySem.boot_len (pa_cons (pv 0) pa_nil)) pe_int (nomark _)) (pss_one (ps_ret (pe_call (ok_is_word_of T) (hr.mono (by decide)) (by rfl) T.m_is_word_of T.F_is_word_of.kp T.b_is_word_of .nil pass0 (pa_cons (pe_ix (Rd.ixTK rfl) (pv 0) pe_int (fun _ _ => rfl)) (pa_cons (pe_glob (v := .ref A.t_PLAIN_FULLS) rfl T.m_PLAIN_FULLS rfl) pa_nil))))) pss_nil)
            (pss_cons ps_never (pss_one ps_never)))), ?_⟩
      try dsimp only [L2.cxOf, L2.Cx.nox, L2.Cx.wish]
      with_reducible refine Rd.seq (Rd.ifS (Rd.not (Rd.tb (Rd.cB (Rd.cons (Rd.var (by walk_at "vr") (Rd.cons (Rd.c (Rd.nil ?_)))))))))
      refine ⟨_, _, _, _, _, rfl, (by walk_at "clsv"), (by walk_at "tyx"), (by walk_at "kit"), ?_⟩
      with_reducible refine Rd.bl (Rd.iteF (by first | with_unfolding_all rfl | walk_at "bF") (Rd.next (Rd.seq (Rd.ifS (Rd.test (Rd.op (Rd.cB (Rd.cons (Rd.var (by walk_at "vr") (Rd.nil (⟨_, _, rfl, (by walk_at "hpq"), ?_⟩)))))))))))
      with_reducible refine Rd.c (Rd.eqS (by walk_at "vr") (Rd.bl (Rd.iteT (by first | with_unfolding_all rfl | walk_at "bT") (Rd.ret (Rd.call (Rd.cons (Rd.op (Rd.var (by walk_at "vr") (Rd.c (Rd.ixT (by walk_at "hpt") (by walk_at "vr") (Rd.cons ?_)))))))))))
      with_reducible refine Rd.c (Rd.nil ?_)
      refine in_is_word_of (fun cdv Ar outer s hr => ?_) rfl
      have hu := hu_of hr
      refine ⟨_, (pss_one (ps_ret (pe_and (pe_callB (Rd.isi (K := K) rfl) (by rfl) T.n_isinstance (by decide +kernel) (pa_cons (pv 0) (pa_cons (pe_bltn (v := .ty "str") (u := .type "str") (by rfl) T.n_str (by decide +kernel) rfl) pa_nil))) (pe_one (pe_cmpR op_in_seq (pv 0) (pv 1) (by with_unfolding_all rfl)))))), ?_⟩
      try dsimp only [L2.cxOf, L2.Cx.nox, L2.Cx.wish]
      with_reducible refine Rd.ret (Rd.andV (Rd.cB (Rd.cons (Rd.var (by walk_at "vr") (Rd.cons (Rd.c (Rd.nil ?_)))))))
      refine ⟨_, _, _, _, _, rfl, (by walk_at "clsv"), (by walk_at "tyx"), (by walk_at "kit"), ?_⟩
      with_reducible refine Rd.bl (Rd.iteT (by first | with_unfolding_all rfl | walk_at "bT") (Rd.op (Rd.var (by walk_at "vr") (Rd.var (by walk_at "vr") ?_))))
      refine Rd.inT (.inr (by walk_at "hpt")) rfl (by walk_at "flt") ?_
      with_reducible refine Rd.bl (Rd.iteF (by walk_at "bF") (Rd.next (Rd.ifS (Rd.and (Rd.test (Rd.op (Rd.var (by walk_at "vr") (Rd.c (Rd.eqS (by walk_at "vr") (Rd.bl (Rd.iteF (by first | with_unfolding_all rfl | walk_at "bF") ?_)))))))))))
      with_reducible refine Rd.iteF rfl (Rd.next ?_)
      refine ⟨by walk_at "hpt", ?_⟩
      refine Rd.unrTCons ?_
      with_reducible refine Rd.name ?_
      dsimp only [List.set]
      with_reducible refine Rd.seq (Rd.ifS (Rd.not (Rd.tb (Rd.call (Rd.cons (Rd.var (by walk_at "vr") (Rd.cons (Rd.dget (Rd.var (by walk_at "vr") (Rd.var (by walk_at "vr") ?_))))))))))
      refine Rd.dget2 (by walk_at "hp") (by walk_at "dl") ?_
      with_reducible refine Rd.nil ?_
      refine in_is_part (fun cdv Ar outer s hr => ?_) rfl
      have hu := hu_of hr
      refine ⟨_, (pss_cons (ps_if (pt_cmpR op_eq (pv 0) pe_str (nomark _)) (pss_one ps_never) pss_nil)
            (pss_cons (ps_if (pt_cmpR op_eq (pv 0) pe_str (nomark _)) (pss_one ps_never) pss_nil)
            (pss_one (ps_ret (pe_call (ok_is_word_of T) (hr.mono (by decide)) (by rfl) T.m_is_word_of T.F_is_word_of.kp T.b_is_word_of .nil pass0 (pa_cons (pv 1) (pa_cons (pe_ix ix_kdict (pe_glob (v := .ref A.t_PART_WORDS) rfl T.m_PART_WORDS rfl) (pv 0) (fun _ _ => rfl)) pa_nil))))))), ?_⟩
      try dsimp only [L2.cxOf, L2.Cx.nox, L2.Cx.wish]
      with_reducible refine Rd.seq (Rd.ifS (Rd.test (Rd.op (Rd.var (by walk_at "vr") (Rd.c (Rd.eqS (by walk_at "vr") (Rd.bl (Rd.iteF (by first | with_unfolding_all rfl | walk_at "bF") (Rd.next (Rd.seq (Rd.ifS ?_)))))))))))
      with_reducible refine Rd.test (Rd.op (Rd.var (by walk_at "vr") (Rd.c (Rd.eqS (by walk_at "vr") (Rd.bl (Rd.iteF (by first | with_unfolding_all rfl | walk_at "bF") (Rd.next (Rd.ret (Rd.call (Rd.cons (Rd.var (by walk_at "vr") ?_)))))))))))
      with_reducible refine Rd.cons (Rd.op (Rd.c (Rd.var (by walk_at "vr") ?_)))
      refine ⟨_, _, _, rfl, rfl, T.d_PART_WORDS_when, ?_⟩
      with_reducible refine Rd.nil ?_
      refine in_is_word_of (fun cdv Ar outer s hr => ?_) rfl
      have hu := hu_of hr
      refine ⟨_, (pss_one (ps_ret (pe_and (pe_callB (Rd.isi (K := K) rfl) (by rfl) T.n_isinstance (by decide +kernel) (pa_cons (pv 0) (pa_cons (pe_bltn (v := .ty "str") (u := .type "str") (by rfl) T.n_str (by decide +kernel) rfl) pa_nil))) (pe_one (pe_cmpR op_in_seq (pv 0) (pv 1) (by with_unfolding_all rfl)))))), ?_⟩
      try dsimp only [L2.cxOf, L2.Cx.nox, L2.Cx.wish]
      with_reducible refine Rd.ret (Rd.andV (Rd.cB (Rd.cons (Rd.var (by walk_at "vr") (Rd.cons (Rd.c (Rd.nil ?_)))))))
      refine ⟨_, _, _, _, _, rfl, (by walk_at "clsv"), (by walk_at "tyx"), (by walk_at "kit"), ?_⟩
      with_reducible refine Rd.bl (Rd.iteT (by first | with_unfolding_all rfl | walk_at "bT") (Rd.op (Rd.var (by walk_at "vr") (Rd.var (by walk_at "vr") ?_))))
      refine Rd.inT (.inr (by walk_at "hpt")) rfl (by walk_at "flt") ?_
      with_reducible refine Rd.bl (Rd.iteF (by walk_at "bF") (Rd.next (Rd.ifS (Rd.and (Rd.test (Rd.op (Rd.var (by walk_at "vr") (Rd.c (Rd.eqS (by walk_at "vr") (Rd.bl (Rd.iteF (by first | with_unfolding_all rfl | walk_at "bF") ?_)))))))))))
      with_reducible refine Rd.iteF rfl (Rd.next ?_)
      refine ⟨by walk_at "hpt", ?_⟩
      refine Rd.unrTNil ?_
      with_reducible refine Rd.ret (Rd.c (Rd.name ?_))
      try dsimp only [Int.reduceToNat, List.set]
      with_reducible refine Rd.seq (Rd.ifS (Rd.test (Rd.op (Rd.var (by walk_at "vr") (Rd.c (⟨rfl, (Rd.bl (Rd.iteF (by first | with_unfolding_all rfl | walk_at "bF") (Rd.next (Rd.sfld (Rd.var (by walk_at "vr") ?_)))))⟩))))))
      with_reducible refine Rd.var (by walk_at "vr") (⟨_, _, _, _, rfl, (by walk_at "hp"), T.k_Scheme, T.n_Scheme_parts, (by walk_at "sfl"), ?_⟩)
      rw [fS_put]
      exact k _ _ (by walk_at "frm") (by assumption) L2.upd_same (by walk_at "hp")
    · have hw : vw = .int w := hw
      subst hw
      have w1 : 1 ≤ w ∧ w ≤ 100 := w1
      obtain ⟨pf, rfl, hpf⟩ := hf
      have i4 : inV (.str kk) [.str "next", .str "note"] = true := Rd.inW (ws := ["next", "note"]) w4
      have n4 : (!inV (.str kk) [.str "next", .str "note"]) = false := Rd.notF i4
      have i2 : (!inV (.str sl) [.str "rest", .str "off", .str "mask"]) = false := Rd.notF (Rd.inW (ws := ["rest", "off", "mask"]) w2)
      have i3 : (!inV (.str em) [.str "same", .str "count", .str "note"]) = false := Rd.notF (Rd.inW (ws := ["same", "count", "note"]) w3)
      have i6 : (!inV (.str wn) [.str "refuse", .str "drop", .str "over"]) = false := Rd.notF (Rd.inW (ws := ["refuse", "drop", "over"]) w5)
      have m1 : decide (V.str sl = V.str "mask") = false := nmask hm
      refine ⟨_, (pss_cons (ps_set (i := 6) sc_Schemeu__initu_.nd rfl (Or.inl rfl) (pe_disp (pps_cons pe_str (pv 1) (pps_cons pe_str (pv 2) (pps_cons pe_str (pv 3) (pps_cons pe_str (pv 4) (pps_cons pe_str (pv 5) pps_nil))))) rfl rfl (by simp) (by decide)))
      (pss_cons (ps_set (i := 7) sc_Schemeu__initu_.nd rfl (Or.inl rfl) (pe_call (ok_first_wrong T) (hr.mono (by decide)) (by rfl) T.m_first_wrong T.F_first_wrong.kp T.b_first_wrong .nil pass0 (pa_cons (pv 6) pa_nil)))
      (pss_cons (ps_if (pt_cmpR op_notN (pv 7) pe_non (nomark _)) (pss_one ps_never) pss_nil)
      (pss_one (ps_fld (pv 0) (pv 6) rfl))))), ?_⟩
      try dsimp only [L2.cxOf, L2.Cx.nox, L2.Cx.wish]
      try rw [st_Schemeu__initu_]
      with_reducible refine Rd.seq (Rd.asg ?_)
      refine Rd.disp5 (fun _ _ h => Rd.var (by walk_at "vr") h) (fun _ _ h => Rd.var (by walk_at "vr") h) (fun _ _ h => Rd.var (by walk_at "vr") h) (fun _ _ h => Rd.var (by walk_at "vr") h) (fun _ _ h => Rd.var (by walk_at "vr") h) ?_
      intro pd366_16 npd366_16
      rw [kvP_merge]
      with_reducible refine Rd.name ?_
      try dsimp only [Int.reduceToNat, List.set]
      with_reducible refine Rd.seq (Rd.asg (Rd.call (Rd.cons (Rd.var (by walk_at "vr") (Rd.nil ?_)))))
      refine in_first_wrong (fun cdv Ar outer s hr => ?_) rfl
      have hu := hu_of hr
      refine ⟨_, (pss_cons (ps_for PassesOwn.never rfl (pi_tup (pe_glob (v := .ref A.t_PART_NAMES) rfl T.m_PART_NAMES rfl)) (pg_name (i := 1) sc_first_wrong.nd rfl (Or.inl rfl)) (pss_cons (ps_if (pt_not (pt_val (pe_call (ok_is_part T) (hr.mono (by decide)) (by rfl) T.m_is_part T.F_is_part.kp T.b_is_part .nil pass0 (pa_cons (pv 1) (pa_cons (pe_dget hu (pv 0) (pv 1) (fun _ _ => rfl)) pa_nil))))) (pss_one ps_never) pss_nil) (pss_one (ps_if (PW.pt (pw_and (pt_cmpR op_eq (pv 1) pe_str (nomark _)) (pw_and (pt_cmpR op_eq (pe_dget hu (pv 0) pe_str (fun _ _ => rfl)) pe_str (nomark _)) (pw_and1 Rd.ptN)))) (pss_one ps_never) pss_nil))))
            (pss_one (ps_ret pe_non))), ?_⟩
      try dsimp only [L2.cxOf, L2.Cx.nox, L2.Cx.wish]
      with_reducible refine Rd.seq (Rd.fr (Rd.it (Rd.c (⟨_, rfl, ?_⟩))))
      refine Rd.unrollT (by walk_at "hpt") ?_
      refine Rd.unrTCons ?_
      with_reducible refine Rd.name ?_
      dsimp only [List.set]
      with_reducible refine Rd.seq (Rd.ifS (Rd.not (Rd.tb (Rd.call (Rd.cons (Rd.var (by walk_at "vr") (Rd.cons (Rd.dget (Rd.var (by walk_at "vr") (Rd.var (by walk_at "vr") ?_))))))))))
      refine Rd.dget2 (by walk_at "hp") (by walk_at "dl") ?_
      with_reducible refine Rd.nil ?_
      refine in_is_part (fun cdv Ar outer s hr => ?_) rfl
      have hu := hu_of hr
      refine ⟨_, (pss_cons (ps_if (pt_cmpR op_eq (pv 0) pe_str (nomark _)) (pss_one (ps_ret (pe_call (ok_is_wrap T) (hr.mono (by decide)) (by rfl) T.m_is_wrap T.F_is_wrap.kp T.b_is_wrap .nil pass0 (pa_cons (pv 1) pa_nil)))) pss_nil)
            (pss_cons ps_never (pss_one ps_never))), ?_⟩
      try dsimp only [L2.cxOf, L2.Cx.nox, L2.Cx.wish]
      with_reducible refine Rd.seq (Rd.ifS (Rd.test (Rd.op (Rd.var (by walk_at "vr") (Rd.c (Rd.eqS (by walk_at "vr") (Rd.bl (Rd.iteT (by first | with_unfolding_all rfl | walk_at "bT") (Rd.ret (Rd.call (Rd.cons ?_)))))))))))
      with_reducible refine Rd.var (by walk_at "vr") (Rd.nil ?_)
      refine in_is_wrap (fun cdv Ar outer s hr => ?_) rfl
      have hu := hu_of hr
      refine ⟨_, (pss_one (ps_ret (pe_or (pe_call (ok_is_small_form T) (hr.mono (by decide)) (by rfl) T.m_is_small_form T.F_is_small_form.kp T.b_is_small_form .nil pass0 (pa_cons (pv 0) pa_nil)) (pe_one (pe_call (ok_is_whole_from T) (hr.mono (by decide)) (by rfl) T.m_is_whole_from T.F_is_whole_from.kp T.b_is_whole_from .nil pass0 (pa_cons (pv 0) (pa_cons pe_int (pa_cons (pe_glob (v := .int (100)) rfl T.m_GREATEST_WIDTH ⟨_, rfl⟩) pa_nil)))))))), ?_⟩
      try dsimp only [L2.cxOf, L2.Cx.nox, L2.Cx.wish]
      with_reducible refine Rd.ret (Rd.orV (Rd.call (Rd.cons (Rd.var (by walk_at "vr") (Rd.nil ?_)))))
      refine in_is_small_form (fun cdv Ar outer s hr => ?_) rfl
      have hu := hu_of hr
      refine ⟨_, (pss_cons (ps_if (pt_not (pt_val (pe_callB (Rd.isi (K := K) rfl) (by rfl) T.n_isinstance (by decide +kernel) (pa_cons (pv 0) (pa_cons (pe_glob (v := .ref A.c_Form) rfl T.m_Form rfl) pa_nil))))) (pss_one (ps_ret pe_bl)) pss_nil)
            (pss_one ps_never)), ?_⟩
      try dsimp only [L2.cxOf, L2.Cx.nox, L2.Cx.wish]
      with_reducible refine Rd.seq (Rd.ifS (Rd.not (Rd.tb (Rd.cB (Rd.cons (Rd.var (by walk_at "vr") (Rd.cons (Rd.c (Rd.nil ?_)))))))))
      refine ⟨_, _, _, _, _, rfl, (by walk_at "clsv"), (by walk_at "tyx"), (by walk_at "kit"), ?_⟩
      with_reducible refine Rd.bl (Rd.iteT (by first | with_unfolding_all rfl | walk_at "bT") (Rd.ret (Rd.c (Rd.bl (Rd.iteF (by first | with_unfolding_all rfl | walk_at "bF") (Rd.call (Rd.cons (Rd.var (by walk_at "vr") (Rd.cons (Rd.c (Rd.cons ?_)))))))))))
      with_reducible refine Rd.c (Rd.nil ?_)
      refine ⟨_, _, _, rfl, .inl ⟨_, rfl, (by walk_at "sc"), (by walk_at "sc"), ?_⟩⟩
      with_reducible refine Rd.bl (Rd.iteF (by walk_at "bF") (Rd.next (Rd.ifS (Rd.and (Rd.test (Rd.op (Rd.var (by walk_at "vr") (Rd.c (Rd.eqS (by walk_at "vr") (Rd.bl (Rd.iteF (by first | with_unfolding_all rfl | walk_at "bF") ?_)))))))))))
      with_reducible refine Rd.iteF rfl (Rd.next ?_)
      refine ⟨by walk_at "hpt", ?_⟩
      refine Rd.unrTCons ?_
      with_reducible refine Rd.name ?_
      dsimp only [List.set]
      with_reducible refine Rd.seq (Rd.ifS (Rd.not (Rd.tb (Rd.call (Rd.cons (Rd.var (by walk_at "vr") (Rd.cons (Rd.dget (Rd.var (by walk_at "vr") (Rd.var (by walk_at "vr") ?_))))))))))
      refine Rd.dget2 (by walk_at "hp") (by walk_at "dl") ?_
      with_reducible refine Rd.nil ?_
      refine in_is_part (fun cdv Ar outer s hr => ?_) rfl
      have hu := hu_of hr
      refine ⟨_, (pss_cons (ps_if (pt_cmpR op_eq (pv 0) pe_str (nomark _)) (pss_one ps_never) pss_nil)
            (pss_cons (ps_if (pt_cmpR op_eq (pv 0) pe_str (nomark _)) (pss_one ps_never) pss_nil)
            (pss_one (ps_ret (pe_call (ok_is_word_of T) (hr.mono (by decide)) (by rfl) T.m_is_word_of T.F_is_word_of.kp T.b_is_word_of .nil pass0 (pa_cons (pv 1) (pa_cons (pe_ix ix_kdict (pe_glob (v := .ref A.t_PART_WORDS) rfl T.m_PART_WORDS rfl) (pv 0) (fun _ _ => rfl)) pa_nil))))))), ?_⟩
      try dsimp only [L2.cxOf, L2.Cx.nox, L2.Cx.wish]
      with_reducible refine Rd.seq (Rd.ifS (Rd.test (Rd.op (Rd.var (by walk_at "vr") (Rd.c (Rd.eqS (by walk_at "vr") (Rd.bl (Rd.iteF (by first | with_unfolding_all rfl | walk_at "bF") (Rd.next (Rd.seq (Rd.ifS ?_)))))))))))
      with_reducible refine Rd.test (Rd.op (Rd.var (by walk_at "vr") (Rd.c (Rd.eqS (by walk_at "vr") (Rd.bl (Rd.iteF (by first | with_unfolding_all rfl | walk_at "bF") (Rd.next (Rd.ret (Rd.call (Rd.cons (Rd.var (by walk_at "vr") ?_)))))))))))
      with_reducible refine Rd.cons (Rd.op (Rd.c (Rd.var (by walk_at "vr") ?_)))
      refine ⟨_, _, _, rfl, rfl, T.d_PART_WORDS_slot, ?_⟩
      with_reducible refine Rd.nil ?_
      refine in_is_word_of (fun cdv Ar outer s hr => ?_) rfl
      have hu := hu_of hr
      refine ⟨_, (pss_one (ps_ret (pe_and (pe_callB (Rd.isi (K := K) rfl) (by rfl) T.n_isinstance (by decide +kernel) (pa_cons (pv 0) (pa_cons (pe_bltn (v := .ty "str") (u := .type "str") (by rfl) T.n_str (by decide +kernel) rfl) pa_nil))) (pe_one (pe_cmpR op_in_seq (pv 0) (pv 1) (by with_unfolding_all rfl)))))), ?_⟩
      try dsimp only [L2.cxOf, L2.Cx.nox, L2.Cx.wish]
      with_reducible refine Rd.ret (Rd.andV (Rd.cB (Rd.cons (Rd.var (by walk_at "vr") (Rd.cons (Rd.c (Rd.nil ?_)))))))
      refine ⟨_, _, _, _, _, rfl, (by walk_at "clsv"), (by walk_at "tyx"), (by walk_at "kit"), ?_⟩
      with_reducible refine Rd.bl (Rd.iteT (by first | with_unfolding_all rfl | walk_at "bT") (Rd.op (Rd.var (by walk_at "vr") (Rd.var (by walk_at "vr") ?_))))
      refine Rd.inT (.inr (by walk_at "hpt")) rfl (by walk_at "flt") ?_
      with_reducible refine Rd.bl (Rd.iteF (by walk_at "bF") (Rd.next (Rd.ifS (Rd.and (Rd.test (Rd.op (Rd.var (by walk_at "vr") (Rd.c (Rd.eqS (by walk_at "vr") (Rd.bl (Rd.iteT (by first | with_unfolding_all rfl | walk_at "bT") ?_)))))))))))
      with_reducible refine Rd.and (Rd.test (Rd.op (Rd.dget (Rd.var (by walk_at "vr") (Rd.c ?_)))))
      refine Rd.dget2 (by walk_at "hp") (by walk_at "dl") ?_
      with_reducible refine Rd.c (Rd.eqS (by walk_at "vr") (Rd.bl (Rd.iteF (by walk_at "bF") (Rd.iteF rfl (Rd.next ?_)))))
      refine ⟨by walk_at "hpt", ?_⟩
      refine Rd.unrTCons ?_
      with_reducible refine Rd.name ?_
      dsimp only [List.set]
      with_reducible refine Rd.seq (Rd.ifS (Rd.not (Rd.tb (Rd.call (Rd.cons (Rd.var (by walk_at "vr") (Rd.cons (Rd.dget (Rd.var (by walk_at "vr") (Rd.var (by walk_at "vr") ?_))))))))))
      refine Rd.dget2 (by walk_at "hp") (by walk_at "dl") ?_
      with_reducible refine Rd.nil ?_
      refine in_is_part (fun cdv Ar outer s hr => ?_) rfl
      have hu := hu_of hr
      refine ⟨_, (pss_cons (ps_if (pt_cmpR op_eq (pv 0) pe_str (nomark _)) (pss_one ps_never) pss_nil)
            (pss_cons (ps_if (pt_cmpR op_eq (pv 0) pe_str (nomark _)) (pss_one ps_never) pss_nil)
            (pss_one (ps_ret (pe_call (ok_is_word_of T) (hr.mono (by decide)) (by rfl) T.m_is_word_of T.F_is_word_of.kp T.b_is_word_of .nil pass0 (pa_cons (pv 1) (pa_cons (pe_ix ix_kdict (pe_glob (v := .ref A.t_PART_WORDS) rfl T.m_PART_WORDS rfl) (pv 0) (fun _ _ => rfl)) pa_nil))))))), ?_⟩
      try dsimp only [L2.cxOf, L2.Cx.nox, L2.Cx.wish]
      with_reducible refine Rd.seq (Rd.ifS (Rd.test (Rd.op (Rd.var (by walk_at "vr") (Rd.c (Rd.eqS (by walk_at "vr") (Rd.bl (Rd.iteF (by first | with_unfolding_all rfl | walk_at "bF") (Rd.next (Rd.seq (Rd.ifS ?_)))))))))))
      with_reducible refine Rd.test (Rd.op (Rd.var (by walk_at "vr") (Rd.c (Rd.eqS (by walk_at "vr") (Rd.bl (Rd.iteF (by first | with_unfolding_all rfl | walk_at "bF") (Rd.next (Rd.ret (Rd.call (Rd.cons (Rd.var (by walk_at "vr") ?_)))))))))))
      with_reducible refine Rd.cons (Rd.op (Rd.c (Rd.var (by walk_at "vr") ?_)))
      refine ⟨_, _, _, rfl, rfl, T.d_PART_WORDS_empty, ?_⟩
      with_reducible refine Rd.nil ?_
      refine in_is_word_of (fun cdv Ar outer s hr => ?_) rfl
      have hu := hu_of hr
      refine ⟨_, (pss_one (ps_ret (pe_and (pe_callB (Rd.isi (K := K) rfl) (by rfl) T.n_isinstance (by decide +kernel) (pa_cons (pv 0) (pa_cons (pe_bltn (v := .ty "str") (u := .type "str") (by rfl) T.n_str (by decide +kernel) rfl) pa_nil))) (pe_one (pe_cmpR op_in_seq (pv 0) (pv 1) (by with_unfolding_all rfl)))))), ?_⟩
      try dsimp only [L2.cxOf, L2.Cx.nox, L2.Cx.wish]
      with_reducible refine Rd.ret (Rd.andV (Rd.cB (Rd.cons (Rd.var (by walk_at "vr") (Rd.cons (Rd.c (Rd.nil ?_)))))))
      refine ⟨_, _, _, _, _, rfl, (by walk_at "clsv"), (by walk_at "tyx"), (by walk_at "kit"), ?_⟩
      with_reducible refine Rd.bl (Rd.iteT (by first | with_unfolding_all rfl | walk_at "bT") (Rd.op (Rd.var (by walk_at "vr") (Rd.var (by walk_at "vr") ?_))))
      refine Rd.inT (.inr (by walk_at "hpt")) rfl (by walk_at "flt") ?_
      with_reducible refine Rd.bl (Rd.iteF (by walk_at "bF") (Rd.next (Rd.ifS (Rd.and (Rd.test (Rd.op (Rd.var (by walk_at "vr") (Rd.c (Rd.eqS (by walk_at "vr") (Rd.bl (Rd.iteF (by first | with_unfolding_all rfl | walk_at "bF") ?_)))))))))))
      with_reducible refine Rd.iteF rfl (Rd.next ?_)
      refine ⟨by walk_at "hpt", ?_⟩
      refine Rd.unrTCons ?_
      with_reducible refine Rd.name ?_
      dsimp only [List.set]
      with_reducible refine Rd.seq (Rd.ifS (Rd.not (Rd.tb (Rd.call (Rd.cons (Rd.var (by walk_at "vr") (Rd.cons (Rd.dget (Rd.var (by walk_at "vr") (Rd.var (by walk_at "vr") ?_))))))))))
      refine Rd.dget2 (by walk_at "hp") (by walk_at "dl") ?_
      with_reducible refine Rd.nil ?_
      refine in_is_part (fun cdv Ar outer s hr => ?_) rfl
      have hu := hu_of hr
      refine ⟨_, (pss_cons (ps_if (pt_cmpR op_eq (pv 0) pe_str (nomark _)) (pss_one ps_never) pss_nil)
            (pss_cons (ps_if (pt_cmpR op_eq (pv 0) pe_str (nomark _)) (pss_one (ps_ret (pe_call (ok_is_full T) (hr.mono (by decide)) (by rfl) T.m_is_full T.F_is_full.kp T.b_is_full .nil pass0 (pa_cons (pv 1) pa_nil)))) pss_nil)
            (pss_one ps_never))), ?_⟩
      try dsimp only [L2.cxOf, L2.Cx.nox, L2.Cx.wish]
      with_reducible refine Rd.seq (Rd.ifS (Rd.test (Rd.op (Rd.var (by walk_at "vr") (Rd.c (Rd.eqS (by walk_at "vr") (Rd.bl (Rd.iteF (by first | with_unfolding_all rfl | walk_at "bF") (Rd.next (Rd.seq (Rd.ifS ?_)))))))))))
      with_reducible refine Rd.test (Rd.op (Rd.var (by walk_at "vr") (Rd.c (Rd.eqS (by walk_at "vr") (Rd.bl (Rd.iteT (by first | with_unfolding_all rfl | walk_at "bT") (Rd.ret (Rd.call (Rd.cons (Rd.var (by walk_at "vr") (Rd.nil ?_)))))))))))
      refine in_is_full (fun cdv Ar outer s hr => ?_) rfl
      have hu := hu_of hr
      refine ⟨_, (pss_cons (ps_if (pt_not (pt_val (pe_callB (Rd.isi (K := K) rfl) (by rfl) T.n_isinstance (by decide +kernel) (pa_cons (pv 0) (pa_cons (pe_bltn (v := .ty "tuple") (u := .type "tuple") (by rfl) T.n_tuple (by decide +kernel) rfl) pa_nil))))) (pss_one ps_never) pss_nil)
            (pss_cons (ps_if (pt_cmpR op_eq (pe_callB call_len_seq (by rfl) T.n_len PySem.boot_len (pa_cons (pv 0) pa_nil)) pe_int (nomark _)) (pss_one (ps_ret (pe_call (ok_is_word_of T) (hr.mono (by decide)) (by rfl) T.m_is_word_of T.F_is_word_of.kp T.b_is_word_of .nil pass0 (pa_cons (pe_ix (Rd.ixTK rfl) (pv 0) pe_int (fun _ _ => rfl)) (pa_cons (pe_glob (v := .ref A.t_PLAIN_FULLS) rfl T.m_PLAIN_FULLS rfl) pa_nil))))) pss_nil)
            (pss_cons ps_never (pss_one ps_never)))), ?_⟩
      try dsimp only [L2.cxOf, L2.Cx.nox, L2.Cx.wish]
      with_reducible refine Rd.seq (Rd.ifS (Rd.not (Rd.tb (Rd.cB (Rd.cons (Rd.var (by walk_at "vr") (Rd.cons (Rd.c (Rd.nil ?_)))))))))
      refine ⟨_, _, _, _, _, rfl, (by walk_at "clsv"), (by walk_at "tyx"), (by walk_at "kit"), ?_⟩
      with_reducible refine Rd.bl (Rd.iteF (by first | with_unfolding_all rfl | walk_at "bF") (Rd.next (Rd.seq (Rd.ifS (Rd.test (Rd.op (Rd.cB (Rd.cons (Rd.var (by walk_at "vr") (Rd.nil (⟨_, _, rfl, (by walk_at "hpq"), ?_⟩)))))))))))
      with_reducible refine Rd.c (Rd.eqS (by walk_at "vr") (Rd.bl (Rd.iteT (by first | with_unfolding_all rfl | walk_at "bT") (Rd.ret (Rd.call (Rd.cons (Rd.op (Rd.var (by walk_at "vr") (Rd.c (Rd.ixT (by walk_at "hpt") (by walk_at "vr") (Rd.cons ?_)))))))))))
      with_reducible refine Rd.c (Rd.nil ?_)
      refine in_is_word_of (fun cdv Ar outer s hr => ?_) rfl
      have hu := hu_of hr
      refine ⟨_, (pss_one (ps_ret (pe_and (pe_callB (Rd.isi (K := K) rfl) (by rfl) T.n_isinstance (by decide +kernel) (pa_cons (pv 0) (pa_cons (pe_bltn (v := .ty "str") (u := .type "str") (by rfl) T.n_str (by decide +kernel) rfl) pa_nil))) (pe_one (pe_cmpR op_in_seq (pv 0) (pv 1) (by with_unfolding_all rfl)))))), ?_⟩
      try dsimp only [L2.cxOf, L2.Cx.nox, L2.Cx.wish]
      with_reducible refine Rd.ret (Rd.andV (Rd.cB (Rd.cons (Rd.var (by walk_at "vr") (Rd.cons (Rd.c (Rd.nil ?_)))))))
      refine ⟨_, _, _, _, _, rfl, (by walk_at "clsv"), (by walk_at "tyx"), (by walk_at "kit"), ?_⟩
      with_reducible refine Rd.bl (Rd.iteT (by first | with_unfolding_all rfl | walk_at "bT") (Rd.op (Rd.var (by walk_at "vr") (Rd.var (by walk_at "vr") ?_))))
      refine Rd.inT (.inr (by walk_at "hpt")) rfl (by walk_at "flt") ?_
      with_reducible refine Rd.bl (Rd.iteF (by walk_at "bF") (Rd.next (Rd.ifS (Rd.and (Rd.test (Rd.op (Rd.var (by walk_at "vr") (Rd.c (Rd.eqS (by walk_at "vr") (Rd.bl (Rd.iteF (by first | with_unfolding_all rfl | walk_at "bF") ?_)))))))))))
      with_reducible refine Rd.iteF rfl (Rd.next ?_)
      refine ⟨by walk_at "hpt", ?_⟩
      refine Rd.unrTCons ?_
      with_reducible refine Rd.name ?_
      dsimp only [List.set]
      with_reducible refine Rd.seq (Rd.ifS (Rd.not (Rd.tb (Rd.call (Rd.cons (Rd.var (by walk_at "vr") (Rd.cons (Rd.dget (Rd.var (by walk_at "vr") (Rd.var (by walk_at "vr") ?_))))))))))
      refine Rd.dget2 (by walk_at "hp") (by walk_at "dl") ?_
      with_reducible refine Rd.nil ?_
      refine in_is_part (fun cdv Ar outer s hr => ?_) rfl
      have hu := hu_of hr
      refine ⟨_, (pss_cons (ps_if (pt_cmpR op_eq (pv 0) pe_str (nomark _)) (pss_one ps_never) pss_nil)
            (pss_cons (ps_if (pt_cmpR op_eq (pv 0) pe_str (nomark _)) (pss_one ps_never) pss_nil)
            (pss_one (ps_ret (pe_call (ok_is_word_of T) (hr.mono (by decide)) (by rfl) T.m_is_word_of T.F_is_word_of.kp T.b_is_word_of .nil pass0 (pa_cons (pv 1) (pa_cons (pe_ix ix_kdict (pe_glob (v := .ref A.t_PART_WORDS) rfl T.m_PART_WORDS rfl) (pv 0) (fun _ _ => rfl)) pa_nil))))))), ?_⟩
      try dsimp only [L2.cxOf, L2.Cx.nox, L2.Cx.wish]
      with_reducible refine Rd.seq (Rd.ifS (Rd.test (Rd.op (Rd.var (by walk_at "vr") (Rd.c (Rd.eqS (by walk_at "vr") (Rd.bl (Rd.iteF (by first | with_unfolding_all rfl | walk_at "bF") (Rd.next (Rd.seq (Rd.ifS ?_)))))))))))
      with_reducible refine Rd.test (Rd.op (Rd.var (by walk_at "vr") (Rd.c (Rd.eqS (by walk_at "vr") (Rd.bl (Rd.iteF (by first | with_unfolding_all rfl | walk_at "bF") (Rd.next (Rd.ret (Rd.call (Rd.cons (Rd.var (by walk_at "vr") ?_)))))))))))
      with_reducible refine Rd.cons (Rd.op (Rd.c (Rd.var (by walk_at "vr") ?_)))
      refine ⟨_, _, _, rfl, rfl, T.d_PART_WORDS_when, ?_⟩
      with_reducible refine Rd.nil ?_
      refine in_is_word_of (fun cdv Ar outer s hr => ?_) rfl
      have hu := hu_of hr
      refine ⟨_, (pss_one (ps_ret (pe_and (pe_callB (Rd.isi (K := K) rfl) (by rfl) T.n_isinstance (by decide +kernel) (pa_cons (pv 0) (pa_cons (pe_bltn (v := .ty "str") (u := .type "str") (by rfl) T.n_str (by decide +kernel) rfl) pa_nil))) (pe_one (pe_cmpR op_in_seq (pv 0) (pv 1) (by with_unfolding_all rfl)))))), ?_⟩
      try dsimp only [L2.cxOf, L2.Cx.nox, L2.Cx.wish]
      with_reducible refine Rd.ret (Rd.andV (Rd.cB (Rd.cons (Rd.var (by walk_at "vr") (Rd.cons (Rd.c (Rd.nil ?_)))))))
      refine ⟨_, _, _, _, _, rfl, (by walk_at "clsv"), (by walk_at "tyx"), (by walk_at "kit"), ?_⟩
      with_reducible refine Rd.bl (Rd.iteT (by first | with_unfolding_all rfl | walk_at "bT") (Rd.op (Rd.var (by walk_at "vr") (Rd.var (by walk_at "vr") ?_))))
      refine Rd.inT (.inr (by walk_at "hpt")) rfl (by walk_at "flt") ?_
      with_reducible refine Rd.bl (Rd.iteF (by walk_at "bF") (Rd.next (Rd.ifS (Rd.and (Rd.test (Rd.op (Rd.var (by walk_at "vr") (Rd.c (Rd.eqS (by walk_at "vr") (Rd.bl (Rd.iteF (by first | with_unfolding_all rfl | walk_at "bF") ?_)))))))))))
      with_reducible refine Rd.iteF rfl (Rd.next ?_)
      refine ⟨by walk_at "hpt", ?_⟩
      refine Rd.unrTNil ?_
      with_reducible refine Rd.ret (Rd.c (Rd.name ?_))
      try dsimp only [Int.reduceToNat, List.set]
      with_reducible refine Rd.seq (Rd.ifS (Rd.test (Rd.op (Rd.var (by walk_at "vr") (Rd.c (⟨rfl, (Rd.bl (Rd.iteF (by first | with_unfolding_all rfl | walk_at "bF") (Rd.next (Rd.sfld (Rd.var (by walk_at "vr") ?_)))))⟩))))))
      with_reducible refine Rd.var (by walk_at "vr") (⟨_, _, _, _, rfl, (by walk_at "hp"), T.k_Scheme, T.n_Scheme_parts, (by walk_at "sfl"), ?_⟩)
      rw [fS_put]
      exact k _ _ (by walk_at "frm") (by assumption) L2.upd_same (by walk_at "hp")
    · have hw : vw = .int w := hw
      subst hw
      have w1 : 1 ≤ w ∧ w ≤ 100 := w1
      obtain ⟨pf, qf, dqf, rfl, hpf, hqf⟩ := hf
      obtain ⟨f1, f2, f3⟩ := w4
      have i4 : inV (.str kk) [.str "diff", .str "count"] = true := Rd.inW (ws := ["diff", "count"]) f1
      have i5 : inV (.str g) [.str "=", .str ">="] = true := Rd.inW (ws := ["=", ">="]) f2
      have i2 : (!inV (.str sl) [.str "rest", .str "off", .str "mask"]) = false := Rd.notF (Rd.inW (ws := ["rest", "off", "mask"]) w2)
      have i3 : (!inV (.str em) [.str "same", .str "count", .str "note"]) = false := Rd.notF (Rd.inW (ws := ["same", "count", "note"]) w3)
      have i6 : (!inV (.str wn) [.str "refuse", .str "drop", .str "over"]) = false := Rd.notF (Rd.inW (ws := ["refuse", "drop", "over"]) w5)
      have m1 : decide (V.str sl = V.str "mask") = true := decide_eq_true (by rw [hm])
      refine ⟨_, (pss_cons (ps_set (i := 6) sc_Schemeu__initu_.nd rfl (Or.inl rfl) (pe_disp (pps_cons pe_str (pv 1) (pps_cons pe_str (pv 2) (pps_cons pe_str (pv 3) (pps_cons pe_str (pv 4) (pps_cons pe_str (pv 5) pps_nil))))) rfl rfl (by simp) (by decide)))
      (pss_cons (ps_set (i := 7) sc_Schemeu__initu_.nd rfl (Or.inl rfl) (pe_call (ok_first_wrong T) (hr.mono (by decide)) (by rfl) T.m_first_wrong T.F_first_wrong.kp T.b_first_wrong .nil pass0 (pa_cons (pv 6) pa_nil)))
      (pss_cons (ps_if (pt_cmpR op_notN (pv 7) pe_non (nomark _)) (pss_one ps_never) pss_nil)
      (pss_one (ps_fld (pv 0) (pv 6) rfl))))), ?_⟩
      try dsimp only [L2.cxOf, L2.Cx.nox, L2.Cx.wish]
      try rw [st_Schemeu__initu_]
      with_reducible refine Rd.seq (Rd.asg ?_)
      refine Rd.disp5 (fun _ _ h => Rd.var (by walk_at "vr") h) (fun _ _ h => Rd.var (by walk_at "vr") h) (fun _ _ h => Rd.var (by walk_at "vr") h) (fun _ _ h => Rd.var (by walk_at "vr") h) (fun _ _ h => Rd.var (by walk_at "vr") h) ?_
      intro pd366_16 npd366_16
      rw [kvP_merge]
      with_reducible refine Rd.name ?_
      try dsimp only [Int.reduceToNat, List.set]
      with_reducible refine Rd.seq (Rd.asg (Rd.call (Rd.cons (Rd.var (by walk_at "vr") (Rd.nil ?_)))))
      refine in_first_wrong (fun cdv Ar outer s hr => ?_) rfl
      have hu := hu_of hr
      refine ⟨_, (pss_cons (ps_for PassesOwn.never rfl (pi_tup (pe_glob (v := .ref A.t_PART_NAMES) rfl T.m_PART_NAMES rfl)) (pg_name (i := 1) sc_first_wrong.nd rfl (Or.inl rfl)) (pss_cons (ps_if (pt_not (pt_val (pe_call (ok_is_part T) (hr.mono (by decide)) (by rfl) T.m_is_part T.F_is_part.kp T.b_is_part .nil pass0 (pa_cons (pv 1) (pa_cons (pe_dget hu (pv 0) (pv 1) (fun _ _ => rfl)) pa_nil))))) (pss_one ps_never) pss_nil) (pss_one (ps_if (PW.pt (pw_and (pt_cmpR op_eq (pv 1) pe_str (nomark _)) (pw_and (pt_cmpR op_eq (pe_dget hu (pv 0) pe_str (fun _ _ => rfl)) pe_str (nomark _)) (pw_and1 (pt_val (pe_callB (Rd.isi (K := K) rfl) (by rfl) T.n_isinstance (by decide +kernel) (pa_cons (pe_dget hu (pv 0) pe_str (fun _ _ => rfl)) (pa_cons (pe_glob (v := .ref A.c_Form) rfl T.m_Form rfl) pa_nil)))))))) (pss_one ps_never) pss_nil))))
            (pss_one (ps_ret pe_non))), ?_⟩
      try dsimp only [L2.cxOf, L2.Cx.nox, L2.Cx.wish]
      with_reducible refine Rd.seq (Rd.fr (Rd.it (Rd.c (⟨_, rfl, ?_⟩))))
      refine Rd.unrollT (by walk_at "hpt") ?_
      refine Rd.unrTCons ?_
      with_reducible refine Rd.name ?_
      dsimp only [List.set]
      with_reducible refine Rd.seq (Rd.ifS (Rd.not (Rd.tb (Rd.call (Rd.cons (Rd.var (by walk_at "vr") (Rd.cons (Rd.dget (Rd.var (by walk_at "vr") (Rd.var (by walk_at "vr") ?_))))))))))
      refine Rd.dget2 (by walk_at "hp") (by walk_at "dl") ?_
      with_reducible refine Rd.nil ?_
      refine in_is_part (fun cdv Ar outer s hr => ?_) rfl
      have hu := hu_of hr
      refine ⟨_, (pss_cons (ps_if (pt_cmpR op_eq (pv 0) pe_str (nomark _)) (pss_one (ps_ret (pe_call (ok_is_wrap T) (hr.mono (by decide)) (by rfl) T.m_is_wrap T.F_is_wrap.kp T.b_is_wrap .nil pass0 (pa_cons (pv 1) pa_nil)))) pss_nil)
            (pss_cons ps_never (pss_one ps_never))), ?_⟩
      try dsimp only [L2.cxOf, L2.Cx.nox, L2.Cx.wish]
      with_reducible refine Rd.seq (Rd.ifS (Rd.test (Rd.op (Rd.var (by walk_at "vr") (Rd.c (Rd.eqS (by walk_at "vr") (Rd.bl (Rd.iteT (by first | with_unfolding_all rfl | walk_at "bT") (Rd.ret (Rd.call (Rd.cons ?_)))))))))))
      with_reducible refine Rd.var (by walk_at "vr") (Rd.nil ?_)
      refine in_is_wrap (fun cdv Ar outer s hr => ?_) rfl
      have hu := hu_of hr
      refine ⟨_, (pss_one (ps_ret (pe_or (pe_call (ok_is_small_form T) (hr.mono (by decide)) (by rfl) T.m_is_small_form T.F_is_small_form.kp T.b_is_small_form .nil pass0 (pa_cons (pv 0) pa_nil)) (pe_one (pe_call (ok_is_whole_from T) (hr.mono (by decide)) (by rfl) T.m_is_whole_from T.F_is_whole_from.kp T.b_is_whole_from .nil pass0 (pa_cons (pv 0) (pa_cons pe_int (pa_cons (pe_glob (v := .int (100)) rfl T.m_GREATEST_WIDTH ⟨_, rfl⟩) pa_nil)))))))), ?_⟩
      try dsimp only [L2.cxOf, L2.Cx.nox, L2.Cx.wish]
      with_reducible refine Rd.ret (Rd.orV (Rd.call (Rd.cons (Rd.var (by walk_at "vr") (Rd.nil ?_)))))
      refine in_is_small_form (fun cdv Ar outer s hr => ?_) rfl
      have hu := hu_of hr
      refine ⟨_, (pss_cons (ps_if (pt_not (pt_val (pe_callB (Rd.isi (K := K) rfl) (by rfl) T.n_isinstance (by decide +kernel) (pa_cons (pv 0) (pa_cons (pe_glob (v := .ref A.c_Form) rfl T.m_Form rfl) pa_nil))))) (pss_one (ps_ret pe_bl)) pss_nil)
            (pss_one ps_never)), ?_⟩
      try dsimp only [L2.cxOf, L2.Cx.nox, L2.Cx.wish]
      with_reducible refine Rd.seq (Rd.ifS (Rd.not (Rd.tb (Rd.cB (Rd.cons (Rd.var (by walk_at "vr") (Rd.cons (Rd.c (Rd.nil ?_)))))))))
      refine ⟨_, _, _, _, _, rfl, (by walk_at "clsv"), (by walk_at "tyx"), (by walk_at "kit"), ?_⟩
      with_reducible refine Rd.bl (Rd.iteT (by first | with_unfolding_all rfl | walk_at "bT") (Rd.ret (Rd.c (Rd.bl (Rd.iteF (by first | with_unfolding_all rfl | walk_at "bF") (Rd.call (Rd.cons (Rd.var (by walk_at "vr") (Rd.cons (Rd.c (Rd.cons ?_)))))))))))
      with_reducible refine Rd.c (Rd.nil ?_)
      refine ⟨_, _, _, rfl, .inl ⟨_, rfl, (by walk_at "sc"), (by walk_at "sc"), ?_⟩⟩
      with_reducible refine Rd.bl (Rd.iteF (by walk_at "bF") (Rd.next (Rd.ifS (Rd.and (Rd.test (Rd.op (Rd.var (by walk_at "vr") (Rd.c (Rd.eqS (by walk_at "vr") (Rd.bl (Rd.iteF (by first | with_unfolding_all rfl | walk_at "bF") ?_)))))))))))
      with_reducible refine Rd.iteF rfl (Rd.next ?_)
      refine ⟨by walk_at "hpt", ?_⟩
      refine Rd.unrTCons ?_
      with_reducible refine Rd.name ?_
      dsimp only [List.set]
      with_reducible refine Rd.seq (Rd.ifS (Rd.not (Rd.tb (Rd.call (Rd.cons (Rd.var (by walk_at "vr") (Rd.cons (Rd.dget (Rd.var (by walk_at "vr") (Rd.var (by walk_at "vr") ?_))))))))))
      refine Rd.dget2 (by walk_at "hp") (by walk_at "dl") ?_
      with_reducible refine Rd.nil ?_
      refine in_is_part (fun cdv Ar outer s hr => ?_) rfl
      have hu := hu_of hr
      refine ⟨_, (pss_cons (ps_if (pt_cmpR op_eq (pv 0) pe_str (nomark _)) (pss_one ps_never) pss_nil)
            (pss_cons (ps_if (pt_cmpR op_eq (pv 0) pe_str (nomark _)) (pss_one ps_never) pss_nil)
            (pss_one (ps_ret (pe_call (ok_is_word_of T) (hr.mono (by decide)) (by rfl) T.m_is_word_of T.F_is_word_of.kp T.b_is_word_of .nil pass0 (pa_cons (pv 1) (pa_cons (pe_ix ix_kdict (pe_glob (v := .ref A.t_PART_WORDS) rfl T.m_PART_WORDS rfl) (pv 0) (fun _ _ => rfl)) pa_nil))))))), ?_⟩
      try dsimp only [L2.cxOf, L2.Cx.nox, L2.Cx.wish]
      with_reducible refine Rd.seq (Rd.ifS (Rd.test (Rd.op (Rd.var (by walk_at "vr") (Rd.c (Rd.eqS (by walk_at "vr") (Rd.bl (Rd.iteF (by first | with_unfolding_all rfl | walk_at "bF") (Rd.next (Rd.seq (Rd.ifS ?_)))))))))))
      with_reducible refine Rd.test (Rd.op (Rd.var (by walk_at "vr") (Rd.c (Rd.eqS (by walk_at "vr") (Rd.bl (Rd.iteF (by first | with_unfolding_all rfl | walk_at "bF") (Rd.next (Rd.ret (Rd.call (Rd.cons (Rd.var (by walk_at "vr") ?_)))))))))))
      with_reducible refine Rd.cons (Rd.op (Rd.c (Rd.var (by walk_at "vr") ?_)))
      refine ⟨_, _, _, rfl, rfl, T.d_PART_WORDS_slot, ?_⟩
      with_reducible refine Rd.nil ?_
      refine in_is_word_of (fun cdv Ar outer s hr => ?_) rfl
      have hu := hu_of hr
      refine ⟨_, (pss_one (ps_ret (pe_and (pe_callB (Rd.isi (K := K) rfl) (by rfl) T.n_isinstance (by decide +kernel) (pa_cons (pv 0) (pa_cons (pe_bltn (v := .ty "str") (u := .type "str") (by rfl) T.n_str (by decide +kernel) rfl) pa_nil))) (pe_one (pe_cmpR op_in_seq (pv 0) (pv 1) (by with_unfolding_all rfl)))))), ?_⟩
      try dsimp only [L2.cxOf, L2.Cx.nox, L2.Cx.wish]
      with_reducible refine Rd.ret (Rd.andV (Rd.cB (Rd.cons (Rd.var (by walk_at "vr") (Rd.cons (Rd.c (Rd.nil ?_)))))))
      refine ⟨_, _, _, _, _, rfl, (by walk_at "clsv"), (by walk_at "tyx"), (by walk_at "kit"), ?_⟩
      with_reducible refine Rd.bl (Rd.iteT (by first | with_unfolding_all rfl | walk_at "bT") (Rd.op (Rd.var (by walk_at "vr") (Rd.var (by walk_at "vr") ?_))))
      refine Rd.inT (.inr (by walk_at "hpt")) rfl (by walk_at "flt") ?_
      with_reducible refine Rd.bl (Rd.iteF (by walk_at "bF") (Rd.next (Rd.ifS (Rd.and (Rd.test (Rd.op (Rd.var (by walk_at "vr") (Rd.c (Rd.eqS (by walk_at "vr") (Rd.bl (Rd.iteT (by first | with_unfolding_all rfl | walk_at "bT") ?_)))))))))))
      with_reducible refine Rd.and (Rd.test (Rd.op (Rd.dget (Rd.var (by walk_at "vr") (Rd.c ?_)))))
      refine Rd.dget2 (by walk_at "hp") (by walk_at "dl") ?_
      with_reducible refine Rd.c (Rd.eqS (by walk_at "vr") (Rd.bl (Rd.iteT (by walk_at "bT") (Rd.tb (Rd.cB (Rd.cons (Rd.dget (Rd.var (by walk_at "vr") (Rd.c ?_)))))))))
      refine Rd.dget2 (by walk_at "hp") (by walk_at "dl") ?_
      with_reducible refine Rd.cons (Rd.c (Rd.nil ?_))
      refine ⟨_, _, _, _, _, rfl, (by walk_at "clsv"), (by walk_at "tyx"), (by walk_at "kit"), ?_⟩
      with_reducible refine Rd.bl (Rd.iteF (by first | with_unfolding_all rfl | walk_at "bF") (Rd.next ?_))
      refine ⟨by walk_at "hpt", ?_⟩
      refine Rd.unrTCons ?_
      with_reducible refine Rd.name ?_
      dsimp only [List.set]
      with_reducible refine Rd.seq (Rd.ifS (Rd.not (Rd.tb (Rd.call (Rd.cons (Rd.var (by walk_at "vr") (Rd.cons (Rd.dget (Rd.var (by walk_at "vr") (Rd.var (by walk_at "vr") ?_))))))))))
      refine Rd.dget2 (by walk_at "hp") (by walk_at "dl") ?_
      with_reducible refine Rd.nil ?_
      refine in_is_part (fun cdv Ar outer s hr => ?_) rfl
      have hu := hu_of hr
      refine ⟨_, (pss_cons (ps_if (pt_cmpR op_eq (pv 0) pe_str (nomark _)) (pss_one ps_never) pss_nil)
            (pss_cons (ps_if (pt_cmpR op_eq (pv 0) pe_str (nomark _)) (pss_one ps_never) pss_nil)
            (pss_one (ps_ret (pe_call (ok_is_word_of T) (hr.mono (by decide)) (by rfl) T.m_is_word_of T.F_is_word_of.kp T.b_is_word_of .nil pass0 (pa_cons (pv 1) (pa_cons (pe_ix ix_kdict (pe_glob (v := .ref A.t_PART_WORDS) rfl T.m_PART_WORDS rfl) (pv 0) (fun _ _ => rfl)) pa_nil))))))), ?_⟩
      try dsimp only [L2.cxOf, L2.Cx.nox, L2.Cx.wish]
      with_reducible refine Rd.seq (Rd.ifS (Rd.test (Rd.op (Rd.var (by walk_at "vr") (Rd.c (Rd.eqS (by walk_at "vr") (Rd.bl (Rd.iteF (by first | with_unfolding_all rfl | walk_at "bF") (Rd.next (Rd.seq (Rd.ifS ?_)))))))))))
      with_reducible refine Rd.test (Rd.op (Rd.var (by walk_at "vr") (Rd.c (Rd.eqS (by walk_at "vr") (Rd.bl (Rd.iteF (by first | with_unfolding_all rfl | walk_at "bF") (Rd.next (Rd.ret (Rd.call (Rd.cons (Rd.var (by walk_at "vr") ?_)))))))))))
      with_reducible refine Rd.cons (Rd.op (Rd.c (Rd.var (by walk_at "vr") ?_)))
      refine ⟨_, _, _, rfl, rfl, T.d_PART_WORDS_empty, ?_⟩
      with_reducible refine Rd.nil ?_
      refine in_is_word_of (fun cdv Ar outer s hr => ?_) rfl
      have hu := hu_of hr
      refine ⟨_, (pss_one (ps_ret (pe_and (pe_callB (Rd.isi (K := K) rfl) (by rfl) T.n_isinstance (by decide +kernel) (pa_cons (pv 0) (pa_cons (pe_bltn (v := .ty "str") (u := .type "str") (by rfl) T.n_str (by decide +kernel) rfl) pa_nil))) (pe_one (pe_cmpR op_in_seq (pv 0) (pv 1) (by with_unfolding_all rfl)))))), ?_⟩
      try dsimp only [L2.cxOf, L2.Cx.nox, L2.Cx.wish]
      with_reducible refine Rd.ret (Rd.andV (Rd.cB (Rd.cons (Rd.var (by walk_at "vr") (Rd.cons (Rd.c (Rd.nil ?_)))))))
      refine ⟨_, _, _, _, _, rfl, (by walk_at "clsv"), (by walk_at "tyx"), (by walk_at "kit"), ?_⟩
      with_reducible refine Rd.bl (Rd.iteT (by first | with_unfolding_all rfl | walk_at "bT") (Rd.op (Rd.var (by walk_at "vr") (Rd.var (by walk_at "vr") ?_))))
      refine Rd.inT (.inr (by walk_at "hpt")) rfl (by walk_at "flt") ?_
      with_reducible refine Rd.bl (Rd.iteF (by walk_at "bF") (Rd.next (Rd.ifS (Rd.and (Rd.test (Rd.op (Rd.var (by walk_at "vr") (Rd.c (Rd.eqS (by walk_at "vr") (Rd.bl (Rd.iteF (by first | with_unfolding_all rfl | walk_at "bF") ?_)))))))))))
      with_reducible refine Rd.iteF rfl (Rd.next ?_)
      refine ⟨by walk_at "hpt", ?_⟩
      refine Rd.unrTCons ?_
      with_reducible refine Rd.name ?_
      dsimp only [List.set]
      with_reducible refine Rd.seq (Rd.ifS (Rd.not (Rd.tb (Rd.call (Rd.cons (Rd.var (by walk_at "vr") (Rd.cons (Rd.dget (Rd.var (by walk_at "vr") (Rd.var (by walk_at "vr") ?_))))))))))
      refine Rd.dget2 (by walk_at "hp") (by walk_at "dl") ?_
      with_reducible refine Rd.nil ?_
      refine in_is_part (fun cdv Ar outer s hr => ?_) rfl
      have hu := hu_of hr
      refine ⟨_, (pss_cons (ps_if (pt_cmpR op_eq (pv 0) pe_str (nomark _)) (pss_one ps_never) pss_nil)
            (pss_cons (ps_if (pt_cmpR op_eq (pv 0) pe_str (nomark _)) (pss_one (ps_ret (pe_call (ok_is_full T) (hr.mono (by decide)) (by rfl) T.m_is_full T.F_is_full.kp T.b_is_full .nil pass0 (pa_cons (pv 1) pa_nil)))) pss_nil)
            (pss_one ps_never))), ?_⟩
      try dsimp only [L2.cxOf, L2.Cx.nox, L2.Cx.wish]
      with_reducible refine Rd.seq (Rd.ifS (Rd.test (Rd.op (Rd.var (by walk_at "vr") (Rd.c (Rd.eqS (by walk_at "vr") (Rd.bl (Rd.iteF (by first | with_unfolding_all rfl | walk_at "bF") (Rd.next (Rd.seq (Rd.ifS ?_)))))))))))
      with_reducible refine Rd.test (Rd.op (Rd.var (by walk_at "vr") (Rd.c (Rd.eqS (by walk_at "vr") (Rd.bl (Rd.iteT (by first | with_unfolding_all rfl | walk_at "bT") (Rd.ret (Rd.call (Rd.cons (Rd.var (by walk_at "vr") (Rd.nil ?_)))))))))))
      refine in_is_full (fun cdv Ar outer s hr => ?_) rfl
      have hu := hu_of hr
      refine ⟨_, (pss_cons (ps_if (pt_not (pt_val (pe_callB (Rd.isi (K := K) rfl) (by rfl) T.n_isinstance (by decide +kernel) (pa_cons (pv 0) (pa_cons (pe_bltn (v := .ty "tuple") (u := .type "tuple") (by rfl) T.n_tuple (by decide +kernel) rfl) pa_nil))))) (pss_one ps_never) pss_nil)
            (pss_cons (ps_if (pt_cmpR op_eq (pe_callB call_len_seq (by rfl) T.n_len PySem.boot_len (pa_cons (pv 0) pa_nil)) pe_int (nomark _)) (pss_one ps_never) pss_nil)
            (pss_cons (ps_if (pt_cmpR op_ne (pe_callB call_len_seq (by rfl) T.n_len PySem.boot_len (pa_cons (pv 0) pa_nil)) pe_int (nomark _)) (pss_one ps_never) pss_nil)
            (pss_one (ps_ret (pe_and (pe_call (ok_is_word_of T) (hr.mono (by decide)) (by rfl) T.m_is_word_of T.F_is_word_of.kp T.b_is_word_of .nil pass0 (pa_cons (pe_ix (Rd.ixTK rfl) (pv 0) pe_int (fun _ _ => rfl)) (pa_cons (pe_glob (v := .ref A.t_MEASURES) rfl T.m_MEASURES rfl) pa_nil))) (pe_and (pe_call (ok_is_word_of T) (hr.mono (by decide)) (by rfl) T.m_is_word_of T.F_is_word_of.kp T.b_is_word_of .nil pass0 (pa_cons (pe_ix (Rd.ixTK rfl) (pv 0) pe_int (fun _ _ => rfl)) (pa_cons (pe_glob (v := .ref A.t_SIGNS) rfl T.m_SIGNS rfl) pa_nil))) (pe_one (pe_call (ok_is_small_form T) (hr.mono (by decide)) (by rfl) T.m_is_small_form T.F_is_small_form.kp T.b_is_small_form .nil pass0 (pa_cons (pe_ix (Rd.ixTK rfl) (pv 0) pe_int (fun _ _ => rfl)) pa_nil)))))))))), ?_⟩
      try dsimp only [L2.cxOf, L2.Cx.nox, L2.Cx.wish]
      with_reducible refine Rd.seq (Rd.ifS (Rd.not (Rd.tb (Rd.cB (Rd.cons (Rd.var (by walk_at "vr") (Rd.cons (Rd.c (Rd.nil ?_)))))))))
      refine ⟨_, _, _, _, _, rfl, (by walk_at "clsv"), (by walk_at "tyx"), (by walk_at "kit"), ?_⟩
      with_reducible refine Rd.bl (Rd.iteF (by first | with_unfolding_all rfl | walk_at "bF") (Rd.next (Rd.seq (Rd.ifS (Rd.test (Rd.op (Rd.cB (Rd.cons (Rd.var (by walk_at "vr") (Rd.nil (⟨_, _, rfl, (by walk_at "hpq"), ?_⟩)))))))))))
      with_reducible refine Rd.c (Rd.eqS (by walk_at "vr") (Rd.bl (Rd.iteF (by first | with_unfolding_all rfl | walk_at "bF") (Rd.next (Rd.seq (Rd.ifS (Rd.test (Rd.op (Rd.cB (Rd.cons (Rd.var (by walk_at "vr") ?_)))))))))))
      with_reducible refine Rd.nil (⟨_, _, rfl, (by walk_at "hpq"), (Rd.c (Rd.neS (by walk_at "vr") (Rd.bl (Rd.iteF (by first | with_unfolding_all rfl | walk_at "bF") (Rd.next (Rd.ret (Rd.andV (Rd.call (Rd.cons (Rd.op ?_))))))))))⟩)
      with_reducible refine Rd.var (by walk_at "vr") (Rd.c (Rd.ixT (by walk_at "hpt") (by walk_at "vr") (Rd.cons (Rd.c (Rd.nil ?_)))))
      refine in_is_word_of (fun cdv Ar outer s hr => ?_) rfl
      have hu := hu_of hr
      refine ⟨_, (pss_one (ps_ret (pe_and (pe_callB (Rd.isi (K := K) rfl) (by rfl) T.n_isinstance (by decide +kernel) (pa_cons (pv 0) (pa_cons (pe_bltn (v := .ty "str") (u := .type "str") (by rfl) T.n_str (by decide +kernel) rfl) pa_nil))) (pe_one (pe_cmpR op_in_seq (pv 0) (pv 1) (by with_unfolding_all rfl)))))), ?_⟩
      try dsimp only [L2.cxOf, L2.Cx.nox, L2.Cx.wish]
      with_reducible refine Rd.ret (Rd.andV (Rd.cB (Rd.cons (Rd.var (by walk_at "vr") (Rd.cons (Rd.c (Rd.nil ?_)))))))
      refine ⟨_, _, _, _, _, rfl, (by walk_at "clsv"), (by walk_at "tyx"), (by walk_at "kit"), ?_⟩
      with_reducible refine Rd.bl (Rd.iteT (by first | with_unfolding_all rfl | walk_at "bT") (Rd.op (Rd.var (by walk_at "vr") (Rd.var (by walk_at "vr") ?_))))
      refine Rd.inT (.inr (by walk_at "hpt")) rfl (by walk_at "flt") ?_
      with_reducible refine Rd.bl (Rd.iteT (by walk_at "bT") (Rd.andV (Rd.call (Rd.cons (Rd.op (Rd.var (by walk_at "vr") (Rd.c (Rd.ixT (by walk_at "hpt") (by walk_at "vr") (Rd.cons (Rd.c (Rd.nil ?_)))))))))))
      refine in_is_word_of (fun cdv Ar outer s hr => ?_) rfl
      have hu := hu_of hr
      refine ⟨_, (pss_one (ps_ret (pe_and (pe_callB (Rd.isi (K := K) rfl) (by rfl) T.n_isinstance (by decide +kernel) (pa_cons (pv 0) (pa_cons (pe_bltn (v := .ty "str") (u := .type "str") (by rfl) T.n_str (by decide +kernel) rfl) pa_nil))) (pe_one (pe_cmpR op_in_seq (pv 0) (pv 1) (by with_unfolding_all rfl)))))), ?_⟩
      try dsimp only [L2.cxOf, L2.Cx.nox, L2.Cx.wish]
      with_reducible refine Rd.ret (Rd.andV (Rd.cB (Rd.cons (Rd.var (by walk_at "vr") (Rd.cons (Rd.c (Rd.nil ?_)))))))
      refine ⟨_, _, _, _, _, rfl, (by walk_at "clsv"), (by walk_at "tyx"), (by walk_at "kit"), ?_⟩
      with_reducible refine Rd.bl (Rd.iteT (by first | with_unfolding_all rfl | walk_at "bT") (Rd.op (Rd.var (by walk_at "vr") (Rd.var (by walk_at "vr") ?_))))
      refine Rd.inT (.inr (by walk_at "hpt")) rfl (by walk_at "flt") ?_
      with_reducible refine Rd.bl (Rd.iteT (by walk_at "bT") (Rd.call (Rd.cons (Rd.op (Rd.var (by walk_at "vr") (Rd.c (Rd.ixT (by walk_at "hpt") (by walk_at "vr") (Rd.nil ?_))))))))
      refine in_is_small_form (fun cdv Ar outer s hr => ?_) rfl
      have hu := hu_of hr
      refine ⟨_, (pss_cons (ps_if (pt_not (pt_val (pe_callB (Rd.isi (K := K) rfl) (by rfl) T.n_isinstance (by decide +kernel) (pa_cons (pv 0) (pa_cons (pe_glob (v := .ref A.c_Form) rfl T.m_Form rfl) pa_nil))))) (pss_one ps_never) pss_nil)
            (pss_one (ps_ret (pe_and (pe_chain op_le op_le pe_int (pe_fld (pv 0) rfl) (pe_glob (v := .int (4)) rfl T.m_GREATEST_SLOPE ⟨_, rfl⟩)) (pe_one (pe_chain op_le op_le (pe_un un_neg (pe_glob (v := .int (20)) rfl T.m_GREATEST_BASE ⟨_, rfl⟩)) (pe_fld (pv 0) rfl) (pe_glob (v := .int (20)) rfl T.m_GREATEST_BASE ⟨_, rfl⟩))))))), ?_⟩
      try dsimp only [L2.cxOf, L2.Cx.nox, L2.Cx.wish]
      with_reducible refine Rd.seq (Rd.ifS (Rd.not (Rd.tb (Rd.cB (Rd.cons (Rd.var (by walk_at "vr") (Rd.cons (Rd.c (Rd.nil ?_)))))))))
      refine ⟨_, _, _, _, _, rfl, (by walk_at "clsv"), (by walk_at "tyx"), (by walk_at "kit"), ?_⟩
      with_reducible refine Rd.bl (Rd.iteF (by first | with_unfolding_all rfl | walk_at "bF") (Rd.next (Rd.ret (Rd.andV (Rd.chain (Rd.c (Rd.fld (Rd.var (by walk_at "vr") (⟨_, _, _, _, _, rfl, (by walk_at "hp"), T.k_Form, T.n_Form_slope, (by walk_at "lk"), (Rd.i0 (Rd.bl ?_))⟩)))))))))
      with_reducible refine Rd.iteT (by walk_at "bT") (Rd.c (Rd.i0 (Rd.bl (Rd.iteT (by walk_at "bT") (Rd.chain (Rd.un (Rd.c (Rd.iU (Rd.fld (Rd.var (by walk_at "vr") (⟨_, _, _, _, _, rfl, (by walk_at "hp"), T.k_Form, T.n_Form_base, (by walk_at "lk"), ?_⟩)))))))))))
      with_reducible refine Rd.i0 (Rd.bl (Rd.iteT (by walk_at "bT") (Rd.c (Rd.i0 (Rd.bl (Rd.iteF (by walk_at "bF") (Rd.next (Rd.ifS (Rd.and (Rd.test (Rd.op ?_)))))))))))
      with_reducible refine Rd.var (by walk_at "vr") (Rd.c (Rd.eqS (by walk_at "vr") (Rd.bl (Rd.iteF (by first | with_unfolding_all rfl | walk_at "bF") (Rd.iteF rfl (Rd.next ?_))))))
      refine ⟨by walk_at "hpt", ?_⟩
      refine Rd.unrTCons ?_
      with_reducible refine Rd.name ?_
      dsimp only [List.set]
      with_reducible refine Rd.seq (Rd.ifS (Rd.not (Rd.tb (Rd.call (Rd.cons (Rd.var (by walk_at "vr") (Rd.cons (Rd.dget (Rd.var (by walk_at "vr") (Rd.var (by walk_at "vr") ?_))))))))))
      refine Rd.dget2 (by walk_at "hp") (by walk_at "dl") ?_
      with_reducible refine Rd.nil ?_
      refine in_is_part (fun cdv Ar outer s hr => ?_) rfl
      have hu := hu_of hr
      refine ⟨_, (pss_cons (ps_if (pt_cmpR op_eq (pv 0) pe_str (nomark _)) (pss_one ps_never) pss_nil)
            (pss_cons (ps_if (pt_cmpR op_eq (pv 0) pe_str (nomark _)) (pss_one ps_never) pss_nil)
            (pss_one (ps_ret (pe_call (ok_is_word_of T) (hr.mono (by decide)) (by rfl) T.m_is_word_of T.F_is_word_of.kp T.b_is_word_of .nil pass0 (pa_cons (pv 1) (pa_cons (pe_ix ix_kdict (pe_glob (v := .ref A.t_PART_WORDS) rfl T.m_PART_WORDS rfl) (pv 0) (fun _ _ => rfl)) pa_nil))))))), ?_⟩
      try dsimp only [L2.cxOf, L2.Cx.nox, L2.Cx.wish]
      with_reducible refine Rd.seq (Rd.ifS (Rd.test (Rd.op (Rd.var (by walk_at "vr") (Rd.c (Rd.eqS (by walk_at "vr") (Rd.bl (Rd.iteF (by first | with_unfolding_all rfl | walk_at "bF") (Rd.next (Rd.seq (Rd.ifS ?_)))))))))))
      with_reducible refine Rd.test (Rd.op (Rd.var (by walk_at "vr") (Rd.c (Rd.eqS (by walk_at "vr") (Rd.bl (Rd.iteF (by first | with_unfolding_all rfl | walk_at "bF") (Rd.next (Rd.ret (Rd.call (Rd.cons (Rd.var (by walk_at "vr") ?_)))))))))))
      with_reducible refine Rd.cons (Rd.op (Rd.c (Rd.var (by walk_at "vr") ?_)))
      refine ⟨_, _, _, rfl, rfl, T.d_PART_WORDS_when, ?_⟩
      with_reducible refine Rd.nil ?_
      refine in_is_word_of (fun cdv Ar outer s hr => ?_) rfl
      have hu := hu_of hr
      refine ⟨_, (pss_one (ps_ret (pe_and (pe_callB (Rd.isi (K := K) rfl) (by rfl) T.n_isinstance (by decide +kernel) (pa_cons (pv 0) (pa_cons (pe_bltn (v := .ty "str") (u := .type "str") (by rfl) T.n_str (by decide +kernel) rfl) pa_nil))) (pe_one (pe_cmpR op_in_seq (pv 0) (pv 1) (by with_unfolding_all rfl)))))), ?_⟩
      try dsimp only [L2.cxOf, L2.Cx.nox, L2.Cx.wish]
      with_reducible refine Rd.ret (Rd.andV (Rd.cB (Rd.cons (Rd.var (by walk_at "vr") (Rd.cons (Rd.c (Rd.nil ?_)))))))
      refine ⟨_, _, _, _, _, rfl, (by walk_at "clsv"), (by walk_at "tyx"), (by walk_at "kit"), ?_⟩
      with_reducible refine Rd.bl (Rd.iteT (by first | with_unfolding_all rfl | walk_at "bT") (Rd.op (Rd.var (by walk_at "vr") (Rd.var (by walk_at "vr") ?_))))
      refine Rd.inT (.inr (by walk_at "hpt")) rfl (by walk_at "flt") ?_
      with_reducible refine Rd.bl (Rd.iteF (by walk_at "bF") (Rd.next (Rd.ifS (Rd.and (Rd.test (Rd.op (Rd.var (by walk_at "vr") (Rd.c (Rd.eqS (by walk_at "vr") (Rd.bl (Rd.iteF (by first | with_unfolding_all rfl | walk_at "bF") ?_)))))))))))
      with_reducible refine Rd.iteF rfl (Rd.next ?_)
      refine ⟨by walk_at "hpt", ?_⟩
      refine Rd.unrTNil ?_
      with_reducible refine Rd.ret (Rd.c (Rd.name ?_))
      try dsimp only [Int.reduceToNat, List.set]
      with_reducible refine Rd.seq (Rd.ifS (Rd.test (Rd.op (Rd.var (by walk_at "vr") (Rd.c (⟨rfl, (Rd.bl (Rd.iteF (by first | with_unfolding_all rfl | walk_at "bF") (Rd.next (Rd.sfld (Rd.var (by walk_at "vr") ?_)))))⟩))))))
      with_reducible refine Rd.var (by walk_at "vr") (⟨_, _, _, _, rfl, (by walk_at "hp"), T.k_Scheme, T.n_Scheme_parts, (by walk_at "sfl"), ?_⟩)
      rw [fS_put]
      exact k _ _ (by walk_at "frm") (by assumption) L2.upd_same (by walk_at "hp")
    · have hw : vw = .int w := hw
      subst hw
      have w1 : 1 ≤ w ∧ w ≤ 100 := w1
      obtain ⟨pf, qf, dqf, rfl, hpf, hqf⟩ := hf
      obtain ⟨f1, f2, f3⟩ := w4
      have i4 : inV (.str kk) [.str "diff", .str "count"] = true := Rd.inW (ws := ["diff", "count"]) f1
      have i5 : inV (.str g) [.str "=", .str ">="] = true := Rd.inW (ws := ["=", ">="]) f2
      have i2 : (!inV (.str sl) [.str "rest", .str "off", .str "mask"]) = false := Rd.notF (Rd.inW (ws := ["rest", "off", "mask"]) w2)
      have i3 : (!inV (.str em) [.str "same", .str "count", .str "note"]) = false := Rd.notF (Rd.inW (ws := ["same", "count", "note"]) w3)
      have i6 : (!inV (.str wn) [.str "refuse", .str "drop", .str "over"]) = false := Rd.notF (Rd.inW (ws := ["refuse", "drop", "over"]) w5)
      have m1 : decide (V.str sl = V.str "mask") = false := nmask hm
      refine ⟨_, (pss_cons (ps_set (i := 6) sc_Schemeu__initu_.nd rfl (Or.inl rfl) (pe_disp (pps_cons pe_str (pv 1) (pps_cons pe_str (pv 2) (pps_cons pe_str (pv 3) (pps_cons pe_str (pv 4) (pps_cons pe_str (pv 5) pps_nil))))) rfl rfl (by simp) (by decide)))
      (pss_cons (ps_set (i := 7) sc_Schemeu__initu_.nd rfl (Or.inl rfl) (pe_call (ok_first_wrong T) (hr.mono (by decide)) (by rfl) T.m_first_wrong T.F_first_wrong.kp T.b_first_wrong .nil pass0 (pa_cons (pv 6) pa_nil)))
      (pss_cons (ps_if (pt_cmpR op_notN (pv 7) pe_non (nomark _)) (pss_one ps_never) pss_nil)
      (pss_one (ps_fld (pv 0) (pv 6) rfl))))), ?_⟩
      try dsimp only [L2.cxOf, L2.Cx.nox, L2.Cx.wish]
      try rw [st_Schemeu__initu_]
      with_reducible refine Rd.seq (Rd.asg ?_)
      refine Rd.disp5 (fun _ _ h => Rd.var (by walk_at "vr") h) (fun _ _ h => Rd.var (by walk_at "vr") h) (fun _ _ h => Rd.var (by walk_at "vr") h) (fun _ _ h => Rd.var (by walk_at "vr") h) (fun _ _ h => Rd.var (by walk_at "vr") h) ?_
      intro pd366_16 npd366_16
      rw [kvP_merge]
      with_reducible refine Rd.name ?_
      try dsimp only [Int.reduceToNat, List.set]
      with_reducible refine Rd.seq (Rd.asg (Rd.call (Rd.cons (Rd.var (by walk_at "vr") (Rd.nil ?_)))))
      refine in_first_wrong (fun cdv Ar outer s hr => ?_) rfl
      have hu := hu_of hr
      refine ⟨_, (pss_cons (ps_for PassesOwn.never rfl (pi_tup (pe_glob (v := .ref A.t_PART_NAMES) rfl T.m_PART_NAMES rfl)) (pg_name (i := 1) sc_first_wrong.nd rfl (Or.inl rfl)) (pss_cons (ps_if (pt_not (pt_val (pe_call (ok_is_part T) (hr.mono (by decide)) (by rfl) T.m_is_part T.F_is_part.kp T.b_is_part .nil pass0 (pa_cons (pv 1) (pa_cons (pe_dget hu (pv 0) (pv 1) (fun _ _ => rfl)) pa_nil))))) (pss_one ps_never) pss_nil) (pss_one (ps_if (PW.pt (pw_and (pt_cmpR op_eq (pv 1) pe_str (nomark _)) (pw_and (pt_cmpR op_eq (pe_dget hu (pv 0) pe_str (fun _ _ => rfl)) pe_str (nomark _)) (pw_and1 Rd.ptN)))) (pss_one ps_never) pss_nil))))
            (pss_one (ps_ret pe_non))), ?_⟩
      try dsimp only [L2.cxOf, L2.Cx.nox, L2.Cx.wish]
      with_reducible refine Rd.seq (Rd.fr (Rd.it (Rd.c (⟨_, rfl, ?_⟩))))
      refine Rd.unrollT (by walk_at "hpt") ?_
      refine Rd.unrTCons ?_
      with_reducible refine Rd.name ?_
      dsimp only [List.set]
      with_reducible refine Rd.seq (Rd.ifS (Rd.not (Rd.tb (Rd.call (Rd.cons (Rd.var (by walk_at "vr") (Rd.cons (Rd.dget (Rd.var (by walk_at "vr") (Rd.var (by walk_at "vr") ?_))))))))))
      refine Rd.dget2 (by walk_at "hp") (by walk_at "dl") ?_
      with_reducible refine Rd.nil ?_
      refine in_is_part (fun cdv Ar outer s hr => ?_) rfl
      have hu := hu_of hr
      refine ⟨_, (pss_cons (ps_if (pt_cmpR op_eq (pv 0) pe_str (nomark _)) (pss_one (ps_ret (pe_call (ok_is_wrap T) (hr.mono (by decide)) (by rfl) T.m_is_wrap T.F_is_wrap.kp T.b_is_wrap .nil pass0 (pa_cons (pv 1) pa_nil)))) pss_nil)
            (pss_cons ps_never (pss_one ps_never))), ?_⟩
      try dsimp only [L2.cxOf, L2.Cx.nox, L2.Cx.wish]
      with_reducible refine Rd.seq (Rd.ifS (Rd.test (Rd.op (Rd.var (by walk_at "vr") (Rd.c (Rd.eqS (by walk_at "vr") (Rd.bl (Rd.iteT (by first | with_unfolding_all rfl | walk_at "bT") (Rd.ret (Rd.call (Rd.cons ?_)))))))))))
      with_reducible refine Rd.var (by walk_at "vr") (Rd.nil ?_)
      refine in_is_wrap (fun cdv Ar outer s hr => ?_) rfl
      have hu := hu_of hr
      refine ⟨_, (pss_one (ps_ret (pe_or (pe_call (ok_is_small_form T) (hr.mono (by decide)) (by rfl) T.m_is_small_form T.F_is_small_form.kp T.b_is_small_form .nil pass0 (pa_cons (pv 0) pa_nil)) (pe_one (pe_call (ok_is_whole_from T) (hr.mono (by decide)) (by rfl) T.m_is_whole_from T.F_is_whole_from.kp T.b_is_whole_from .nil pass0 (pa_cons (pv 0) (pa_cons pe_int (pa_cons (pe_glob (v := .int (100)) rfl T.m_GREATEST_WIDTH ⟨_, rfl⟩) pa_nil)))))))), ?_⟩
      try dsimp only [L2.cxOf, L2.Cx.nox, L2.Cx.wish]
      with_reducible refine Rd.ret (Rd.orV (Rd.call (Rd.cons (Rd.var (by walk_at "vr") (Rd.nil ?_)))))
      refine in_is_small_form (fun cdv Ar outer s hr => ?_) rfl
      have hu := hu_of hr
      refine ⟨_, (pss_cons (ps_if (pt_not (pt_val (pe_callB (Rd.isi (K := K) rfl) (by rfl) T.n_isinstance (by decide +kernel) (pa_cons (pv 0) (pa_cons (pe_glob (v := .ref A.c_Form) rfl T.m_Form rfl) pa_nil))))) (pss_one (ps_ret pe_bl)) pss_nil)
            (pss_one ps_never)), ?_⟩
      try dsimp only [L2.cxOf, L2.Cx.nox, L2.Cx.wish]
      with_reducible refine Rd.seq (Rd.ifS (Rd.not (Rd.tb (Rd.cB (Rd.cons (Rd.var (by walk_at "vr") (Rd.cons (Rd.c (Rd.nil ?_)))))))))
      refine ⟨_, _, _, _, _, rfl, (by walk_at "clsv"), (by walk_at "tyx"), (by walk_at "kit"), ?_⟩
      with_reducible refine Rd.bl (Rd.iteT (by first | with_unfolding_all rfl | walk_at "bT") (Rd.ret (Rd.c (Rd.bl (Rd.iteF (by first | with_unfolding_all rfl | walk_at "bF") (Rd.call (Rd.cons (Rd.var (by walk_at "vr") (Rd.cons (Rd.c (Rd.cons ?_)))))))))))
      with_reducible refine Rd.c (Rd.nil ?_)
      refine ⟨_, _, _, rfl, .inl ⟨_, rfl, (by walk_at "sc"), (by walk_at "sc"), ?_⟩⟩
      with_reducible refine Rd.bl (Rd.iteF (by walk_at "bF") (Rd.next (Rd.ifS (Rd.and (Rd.test (Rd.op (Rd.var (by walk_at "vr") (Rd.c (Rd.eqS (by walk_at "vr") (Rd.bl (Rd.iteF (by first | with_unfolding_all rfl | walk_at "bF") ?_)))))))))))
      with_reducible refine Rd.iteF rfl (Rd.next ?_)
      refine ⟨by walk_at "hpt", ?_⟩
      refine Rd.unrTCons ?_
      with_reducible refine Rd.name ?_
      dsimp only [List.set]
      with_reducible refine Rd.seq (Rd.ifS (Rd.not (Rd.tb (Rd.call (Rd.cons (Rd.var (by walk_at "vr") (Rd.cons (Rd.dget (Rd.var (by walk_at "vr") (Rd.var (by walk_at "vr") ?_))))))))))
      refine Rd.dget2 (by walk_at "hp") (by walk_at "dl") ?_
      with_reducible refine Rd.nil ?_
      refine in_is_part (fun cdv Ar outer s hr => ?_) rfl
      have hu := hu_of hr
      refine ⟨_, (pss_cons (ps_if (pt_cmpR op_eq (pv 0) pe_str (nomark _)) (pss_one ps_never) pss_nil)
            (pss_cons (ps_if (pt_cmpR op_eq (pv 0) pe_str (nomark _)) (pss_one ps_never) pss_nil)
            (pss_one (ps_ret (pe_call (ok_is_word_of T) (hr.mono (by decide)) (by rfl) T.m_is_word_of T.F_is_word_of.kp T.b_is_word_of .nil pass0 (pa_cons (pv 1) (pa_cons (pe_ix ix_kdict (pe_glob (v := .ref A.t_PART_WORDS) rfl T.m_PART_WORDS rfl) (pv 0) (fun _ _ => rfl)) pa_nil))))))), ?_⟩
      try dsimp only [L2.cxOf, L2.Cx.nox, L2.Cx.wish]
      with_reducible refine Rd.seq (Rd.ifS (Rd.test (Rd.op (Rd.var (by walk_at "vr") (Rd.c (Rd.eqS (by walk_at "vr") (Rd.bl (Rd.iteF (by first | with_unfolding_all rfl | walk_at "bF") (Rd.next (Rd.seq (Rd.ifS ?_)))))))))))
      with_reducible refine Rd.test (Rd.op (Rd.var (by walk_at "vr") (Rd.c (Rd.eqS (by walk_at "vr") (Rd.bl (Rd.iteF (by first | with_unfolding_all rfl | walk_at "bF") (Rd.next (Rd.ret (Rd.call (Rd.cons (Rd.var (by walk_at "vr") ?_)))))))))))
      with_reducible refine Rd.cons (Rd.op (Rd.c (Rd.var (by walk_at "vr") ?_)))
      refine ⟨_, _, _, rfl, rfl, T.d_PART_WORDS_slot, ?_⟩
      with_reducible refine Rd.nil ?_
      refine in_is_word_of (fun cdv Ar outer s hr => ?_) rfl
      have hu := hu_of hr
      refine ⟨_, (pss_one (ps_ret (pe_and (pe_callB (Rd.isi (K := K) rfl) (by rfl) T.n_isinstance (by decide +kernel) (pa_cons (pv 0) (pa_cons (pe_bltn (v := .ty "str") (u := .type "str") (by rfl) T.n_str (by decide +kernel) rfl) pa_nil))) (pe_one (pe_cmpR op_in_seq (pv 0) (pv 1) (by with_unfolding_all rfl)))))), ?_⟩
      try dsimp only [L2.cxOf, L2.Cx.nox, L2.Cx.wish]
      with_reducible refine Rd.ret (Rd.andV (Rd.cB (Rd.cons (Rd.var (by walk_at "vr") (Rd.cons (Rd.c (Rd.nil ?_)))))))
      refine ⟨_, _, _, _, _, rfl, (by walk_at "clsv"), (by walk_at "tyx"), (by walk_at "kit"), ?_⟩
      with_reducible refine Rd.bl (Rd.iteT (by first | with_unfolding_all rfl | walk_at "bT") (Rd.op (Rd.var (by walk_at "vr") (Rd.var (by walk_at "vr") ?_))))
      refine Rd.inT (.inr (by walk_at "hpt")) rfl (by walk_at "flt") ?_
      with_reducible refine Rd.bl (Rd.iteF (by walk_at "bF") (Rd.next (Rd.ifS (Rd.and (Rd.test (Rd.op (Rd.var (by walk_at "vr") (Rd.c (Rd.eqS (by walk_at "vr") (Rd.bl (Rd.iteT (by first | with_unfolding_all rfl | walk_at "bT") ?_)))))))))))
      with_reducible refine Rd.and (Rd.test (Rd.op (Rd.dget (Rd.var (by walk_at "vr") (Rd.c ?_)))))
      refine Rd.dget2 (by walk_at "hp") (by walk_at "dl") ?_
      with_reducible refine Rd.c (Rd.eqS (by walk_at "vr") (Rd.bl (Rd.iteF (by walk_at "bF") (Rd.iteF rfl (Rd.next ?_)))))
      refine ⟨by walk_at "hpt", ?_⟩
      refine Rd.unrTCons ?_
      with_reducible refine Rd.name ?_
      dsimp only [List.set]
      with_reducible refine Rd.seq (Rd.ifS (Rd.not (Rd.tb (Rd.call (Rd.cons (Rd.var (by walk_at "vr") (Rd.cons (Rd.dget (Rd.var (by walk_at "vr") (Rd.var (by walk_at "vr") ?_))))))))))
      refine Rd.dget2 (by walk_at "hp") (by walk_at "dl") ?_
      with_reducible refine Rd.nil ?_
      refine in_is_part (fun cdv Ar outer s hr => ?_) rfl
      have hu := hu_of hr
      refine ⟨_, (pss_cons (ps_if (pt_cmpR op_eq (pv 0) pe_str (nomark _)) (pss_one ps_never) pss_nil)
            (pss_cons (ps_if (pt_cmpR op_eq (pv 0) pe_str (nomark _)) (pss_one ps_never) pss_nil)
            (pss_one (ps_ret (pe_call (ok_is_word_of T) (hr.mono (by decide)) (by rfl) T.m_is_word_of T.F_is_word_of.kp T.b_is_word_of .nil pass0 (pa_cons (pv 1) (pa_cons (pe_ix ix_kdict (pe_glob (v := .ref A.t_PART_WORDS) rfl T.m_PART_WORDS rfl) (pv 0) (fun _ _ => rfl)) pa_nil))))))), ?_⟩
      try dsimp only [L2.cxOf, L2.Cx.nox, L2.Cx.wish]
      with_reducible refine Rd.seq (Rd.ifS (Rd.test (Rd.op (Rd.var (by walk_at "vr") (Rd.c (Rd.eqS (by walk_at "vr") (Rd.bl (Rd.iteF (by first | with_unfolding_all rfl | walk_at "bF") (Rd.next (Rd.seq (Rd.ifS ?_)))))))))))
      with_reducible refine Rd.test (Rd.op (Rd.var (by walk_at "vr") (Rd.c (Rd.eqS (by walk_at "vr") (Rd.bl (Rd.iteF (by first | with_unfolding_all rfl | walk_at "bF") (Rd.next (Rd.ret (Rd.call (Rd.cons (Rd.var (by walk_at "vr") ?_)))))))))))
      with_reducible refine Rd.cons (Rd.op (Rd.c (Rd.var (by walk_at "vr") ?_)))
      refine ⟨_, _, _, rfl, rfl, T.d_PART_WORDS_empty, ?_⟩
      with_reducible refine Rd.nil ?_
      refine in_is_word_of (fun cdv Ar outer s hr => ?_) rfl
      have hu := hu_of hr
      refine ⟨_, (pss_one (ps_ret (pe_and (pe_callB (Rd.isi (K := K) rfl) (by rfl) T.n_isinstance (by decide +kernel) (pa_cons (pv 0) (pa_cons (pe_bltn (v := .ty "str") (u := .type "str") (by rfl) T.n_str (by decide +kernel) rfl) pa_nil))) (pe_one (pe_cmpR op_in_seq (pv 0) (pv 1) (by with_unfolding_all rfl)))))), ?_⟩
      try dsimp only [L2.cxOf, L2.Cx.nox, L2.Cx.wish]
      with_reducible refine Rd.ret (Rd.andV (Rd.cB (Rd.cons (Rd.var (by walk_at "vr") (Rd.cons (Rd.c (Rd.nil ?_)))))))
      refine ⟨_, _, _, _, _, rfl, (by walk_at "clsv"), (by walk_at "tyx"), (by walk_at "kit"), ?_⟩
      with_reducible refine Rd.bl (Rd.iteT (by first | with_unfolding_all rfl | walk_at "bT") (Rd.op (Rd.var (by walk_at "vr") (Rd.var (by walk_at "vr") ?_))))
      refine Rd.inT (.inr (by walk_at "hpt")) rfl (by walk_at "flt") ?_
      with_reducible refine Rd.bl (Rd.iteF (by walk_at "bF") (Rd.next (Rd.ifS (Rd.and (Rd.test (Rd.op (Rd.var (by walk_at "vr") (Rd.c (Rd.eqS (by walk_at "vr") (Rd.bl (Rd.iteF (by first | with_unfolding_all rfl | walk_at "bF") ?_)))))))))))
      with_reducible refine Rd.iteF rfl (Rd.next ?_)
      refine ⟨by walk_at "hpt", ?_⟩
      refine Rd.unrTCons ?_
      with_reducible refine Rd.name ?_
      dsimp only [List.set]
      with_reducible refine Rd.seq (Rd.ifS (Rd.not (Rd.tb (Rd.call (Rd.cons (Rd.var (by walk_at "vr") (Rd.cons (Rd.dget (Rd.var (by walk_at "vr") (Rd.var (by walk_at "vr") ?_))))))))))
      refine Rd.dget2 (by walk_at "hp") (by walk_at "dl") ?_
      with_reducible refine Rd.nil ?_
      refine in_is_part (fun cdv Ar outer s hr => ?_) rfl
      have hu := hu_of hr
      refine ⟨_, (pss_cons (ps_if (pt_cmpR op_eq (pv 0) pe_str (nomark _)) (pss_one ps_never) pss_nil)
            (pss_cons (ps_if (pt_cmpR op_eq (pv 0) pe_str (nomark _)) (pss_one (ps_ret (pe_call (ok_is_full T) (hr.mono (by decide)) (by rfl) T.m_is_full T.F_is_full.kp T.b_is_full .nil pass0 (pa_cons (pv 1) pa_nil)))) pss_nil)
            (pss_one ps_never))), ?_⟩
      try dsimp only [L2.cxOf, L2.Cx.nox, L2.Cx.wish]
      with_reducible refine Rd.seq (Rd.ifS (Rd.test (Rd.op (Rd.var (by walk_at "vr") (Rd.c (Rd.eqS (by walk_at "vr") (Rd.bl (Rd.iteF (by first | with_unfolding_all rfl | walk_at "bF") (Rd.next (Rd.seq (Rd.ifS ?_)))))))))))
      with_reducible refine Rd.test (Rd.op (Rd.var (by walk_at "vr") (Rd.c (Rd.eqS (by walk_at "vr") (Rd.bl (Rd.iteT (by first | with_unfolding_all rfl | walk_at "bT") (Rd.ret (Rd.call (Rd.cons (Rd.var (by walk_at "vr") (Rd.nil ?_)))))))))))
      refine in_is_full (fun cdv Ar outer s hr => ?_) rfl
      have hu := hu_of hr
      refine ⟨_, (pss_cons (ps_if (pt_not (pt_val (pe_callB (Rd.isi (K := K) rfl) (by rfl) T.n_isinstance (by decide +kernel) (pa_cons (pv 0) (pa_cons (pe_bltn (v := .ty "tuple") (u := .type "tuple") (by rfl) T.n_tuple (by decide +kernel) rfl) pa_nil))))) (pss_one ps_never) pss_nil)
            (pss_cons (ps_if (pt_cmpR op_eq (pe_callB call_len_seq (by rfl) T.n_len PySem.boot_len (pa_cons (pv 0) pa_nil)) pe_int (nomark _)) (pss_one ps_never) pss_nil)
            (pss_cons (ps_if (pt_cmpR op_ne (pe_callB call_len_seq (by rfl) T.n_len PySem.boot_len (pa_cons (pv 0) pa_nil)) pe_int (nomark _)) (pss_one ps_never) pss_nil)
            (pss_one (ps_ret (pe_and (pe_call (ok_is_word_of T) (hr.mono (by decide)) (by rfl) T.m_is_word_of T.F_is_word_of.kp T.b_is_word_of .nil pass0 (pa_cons (pe_ix (Rd.ixTK rfl) (pv 0) pe_int (fun _ _ => rfl)) (pa_cons (pe_glob (v := .ref A.t_MEASURES) rfl T.m_MEASURES rfl) pa_nil))) (pe_and (pe_call (ok_is_word_of T) (hr.mono (by decide)) (by rfl) T.m_is_word_of T.F_is_word_of.kp T.b_is_word_of .nil pass0 (pa_cons (pe_ix (Rd.ixTK rfl) (pv 0) pe_int (fun _ _ => rfl)) (pa_cons (pe_glob (v := .ref A.t_SIGNS) rfl T.m_SIGNS rfl) pa_nil))) (pe_one (pe_call (ok_is_small_form T) (hr.mono (by decide)) (by rfl) T.m_is_small_form T.F_is_small_form.kp T.b_is_small_form .nil pass0 (pa_cons (pe_ix (Rd.ixTK rfl) (pv 0) pe_int (fun _ _ => rfl)) pa_nil)))))))))), ?_⟩
      try dsimp only [L2.cxOf, L2.Cx.nox, L2.Cx.wish]
      with_reducible refine Rd.seq (Rd.ifS (Rd.not (Rd.tb (Rd.cB (Rd.cons (Rd.var (by walk_at "vr") (Rd.cons (Rd.c (Rd.nil ?_)))))))))
      refine ⟨_, _, _, _, _, rfl, (by walk_at "clsv"), (by walk_at "tyx"), (by walk_at "kit"), ?_⟩
      with_reducible refine Rd.bl (Rd.iteF (by first | with_unfolding_all rfl | walk_at "bF") (Rd.next (Rd.seq (Rd.ifS (Rd.test (Rd.op (Rd.cB (Rd.cons (Rd.var (by walk_at "vr") (Rd.nil (⟨_, _, rfl, (by walk_at "hpq"), ?_⟩)))))))))))
      with_reducible refine Rd.c (Rd.eqS (by walk_at "vr") (Rd.bl (Rd.iteF (by first | with_unfolding_all rfl | walk_at "bF") (Rd.next (Rd.seq (Rd.ifS (Rd.test (Rd.op (Rd.cB (Rd.cons (Rd.var (by walk_at "vr") ?_)))))))))))
      with_reducible refine Rd.nil (⟨_, _, rfl, (by walk_at "hpq"), (Rd.c (Rd.neS (by walk_at "vr") (Rd.bl (Rd.iteF (by first | with_unfolding_all rfl | walk_at "bF") (Rd.next (Rd.ret (Rd.andV (Rd.call (Rd.cons (Rd.op ?_))))))))))⟩)
      with_reducible refine Rd.var (by walk_at "vr") (Rd.c (Rd.ixT (by walk_at "hpt") (by walk_at "vr") (Rd.cons (Rd.c (Rd.nil ?_)))))
      refine in_is_word_of (fun cdv Ar outer s hr => ?_) rfl
      have hu := hu_of hr
      refine ⟨_, (pss_one (ps_ret (pe_and (pe_callB (Rd.isi (K := K) rfl) (by rfl) T.n_isinstance (by decide +kernel) (pa_cons (pv 0) (pa_cons (pe_bltn (v := .ty "str") (u := .type "str") (by rfl) T.n_str (by decide +kernel) rfl) pa_nil))) (pe_one (pe_cmpR op_in_seq (pv 0) (pv 1) (by with_unfolding_all rfl)))))), ?_⟩
      try dsimp only [L2.cxOf, L2.Cx.nox, L2.Cx.wish]
      with_reducible refine Rd.ret (Rd.andV (Rd.cB (Rd.cons (Rd.var (by walk_at "vr") (Rd.cons (Rd.c (Rd.nil ?_)))))))
      refine ⟨_, _, _, _, _, rfl, (by walk_at "clsv"), (by walk_at "tyx"), (by walk_at "kit"), ?_⟩
      with_reducible refine Rd.bl (Rd.iteT (by first | with_unfolding_all rfl | walk_at "bT") (Rd.op (Rd.var (by walk_at "vr") (Rd.var (by walk_at "vr") ?_))))
      refine Rd.inT (.inr (by walk_at "hpt")) rfl (by walk_at "flt") ?_
      with_reducible refine Rd.bl (Rd.iteT (by walk_at "bT") (Rd.andV (Rd.call (Rd.cons (Rd.op (Rd.var (by walk_at "vr") (Rd.c (Rd.ixT (by walk_at "hpt") (by walk_at "vr") (Rd.cons (Rd.c (Rd.nil ?_)))))))))))
      refine in_is_word_of (fun cdv Ar outer s hr => ?_) rfl
      have hu := hu_of hr
      refine ⟨_, (pss_one (ps_ret (pe_and (pe_callB (Rd.isi (K := K) rfl) (by rfl) T.n_isinstance (by decide +kernel) (pa_cons (pv 0) (pa_cons (pe_bltn (v := .ty "str") (u := .type "str") (by rfl) T.n_str (by decide +kernel) rfl) pa_nil))) (pe_one (pe_cmpR op_in_seq (pv 0) (pv 1) (by with_unfolding_all rfl)))))), ?_⟩
      try dsimp only [L2.cxOf, L2.Cx.nox, L2.Cx.wish]
      with_reducible refine Rd.ret (Rd.andV (Rd.cB (Rd.cons (Rd.var (by walk_at "vr") (Rd.cons (Rd.c (Rd.nil ?_)))))))
      refine ⟨_, _, _, _, _, rfl, (by walk_at "clsv"), (by walk_at "tyx"), (by walk_at "kit"), ?_⟩
      with_reducible refine Rd.bl (Rd.iteT (by first | with_unfolding_all rfl | walk_at "bT") (Rd.op (Rd.var (by walk_at "vr") (Rd.var (by walk_at "vr") ?_))))
      refine Rd.inT (.inr (by walk_at "hpt")) rfl (by walk_at "flt") ?_
      with_reducible refine Rd.bl (Rd.iteT (by walk_at "bT") (Rd.call (Rd.cons (Rd.op (Rd.var (by walk_at "vr") (Rd.c (Rd.ixT (by walk_at "hpt") (by walk_at "vr") (Rd.nil ?_))))))))
      refine in_is_small_form (fun cdv Ar outer s hr => ?_) rfl
      have hu := hu_of hr
      refine ⟨_, (pss_cons (ps_if (pt_not (pt_val (pe_callB (Rd.isi (K := K) rfl) (by rfl) T.n_isinstance (by decide +kernel) (pa_cons (pv 0) (pa_cons (pe_glob (v := .ref A.c_Form) rfl T.m_Form rfl) pa_nil))))) (pss_one ps_never) pss_nil)
            (pss_one (ps_ret (pe_and (pe_chain op_le op_le pe_int (pe_fld (pv 0) rfl) (pe_glob (v := .int (4)) rfl T.m_GREATEST_SLOPE ⟨_, rfl⟩)) (pe_one (pe_chain op_le op_le (pe_un un_neg (pe_glob (v := .int (20)) rfl T.m_GREATEST_BASE ⟨_, rfl⟩)) (pe_fld (pv 0) rfl) (pe_glob (v := .int (20)) rfl T.m_GREATEST_BASE ⟨_, rfl⟩))))))), ?_⟩
      try dsimp only [L2.cxOf, L2.Cx.nox, L2.Cx.wish]
      with_reducible refine Rd.seq (Rd.ifS (Rd.not (Rd.tb (Rd.cB (Rd.cons (Rd.var (by walk_at "vr") (Rd.cons (Rd.c (Rd.nil ?_)))))))))
      refine ⟨_, _, _, _, _, rfl, (by walk_at "clsv"), (by walk_at "tyx"), (by walk_at "kit"), ?_⟩
      with_reducible refine Rd.bl (Rd.iteF (by first | with_unfolding_all rfl | walk_at "bF") (Rd.next (Rd.ret (Rd.andV (Rd.chain (Rd.c (Rd.fld (Rd.var (by walk_at "vr") (⟨_, _, _, _, _, rfl, (by walk_at "hp"), T.k_Form, T.n_Form_slope, (by walk_at "lk"), (Rd.i0 (Rd.bl ?_))⟩)))))))))
      with_reducible refine Rd.iteT (by walk_at "bT") (Rd.c (Rd.i0 (Rd.bl (Rd.iteT (by walk_at "bT") (Rd.chain (Rd.un (Rd.c (Rd.iU (Rd.fld (Rd.var (by walk_at "vr") (⟨_, _, _, _, _, rfl, (by walk_at "hp"), T.k_Form, T.n_Form_base, (by walk_at "lk"), ?_⟩)))))))))))
      with_reducible refine Rd.i0 (Rd.bl (Rd.iteT (by walk_at "bT") (Rd.c (Rd.i0 (Rd.bl (Rd.iteF (by walk_at "bF") (Rd.next (Rd.ifS (Rd.and (Rd.test (Rd.op ?_)))))))))))
      with_reducible refine Rd.var (by walk_at "vr") (Rd.c (Rd.eqS (by walk_at "vr") (Rd.bl (Rd.iteF (by first | with_unfolding_all rfl | walk_at "bF") (Rd.iteF rfl (Rd.next ?_))))))
      refine ⟨by walk_at "hpt", ?_⟩
      refine Rd.unrTCons ?_
      with_reducible refine Rd.name ?_
      dsimp only [List.set]
      with_reducible refine Rd.seq (Rd.ifS (Rd.not (Rd.tb (Rd.call (Rd.cons (Rd.var (by walk_at "vr") (Rd.cons (Rd.dget (Rd.var (by walk_at "vr") (Rd.var (by walk_at "vr") ?_))))))))))
      refine Rd.dget2 (by walk_at "hp") (by walk_at "dl") ?_
      with_reducible refine Rd.nil ?_
      refine in_is_part (fun cdv Ar outer s hr => ?_) rfl
      have hu := hu_of hr
      refine ⟨_, (pss_cons (ps_if (pt_cmpR op_eq (pv 0) pe_str (nomark _)) (pss_one ps_never) pss_nil)
            (pss_cons (ps_if (pt_cmpR op_eq (pv 0) pe_str (nomark _)) (pss_one ps_never) pss_nil)
            (pss_one (ps_ret (pe_call (ok_is_word_of T) (hr.mono (by decide)) (by rfl) T.m_is_word_of T.F_is_word_of.kp T.b_is_word_of .nil pass0 (pa_cons (pv 1) (pa_cons (pe_ix ix_kdict (pe_glob (v := .ref A.t_PART_WORDS) rfl T.m_PART_WORDS rfl) (pv 0) (fun _ _ => rfl)) pa_nil))))))), ?_⟩
      try dsimp only [L2.cxOf, L2.Cx.nox, L2.Cx.wish]
      with_reducible refine Rd.seq (Rd.ifS (Rd.test (Rd.op (Rd.var (by walk_at "vr") (Rd.c (Rd.eqS (by walk_at "vr") (Rd.bl (Rd.iteF (by first | with_unfolding_all rfl | walk_at "bF") (Rd.next (Rd.seq (Rd.ifS ?_)))))))))))
      with_reducible refine Rd.test (Rd.op (Rd.var (by walk_at "vr") (Rd.c (Rd.eqS (by walk_at "vr") (Rd.bl (Rd.iteF (by first | with_unfolding_all rfl | walk_at "bF") (Rd.next (Rd.ret (Rd.call (Rd.cons (Rd.var (by walk_at "vr") ?_)))))))))))
      with_reducible refine Rd.cons (Rd.op (Rd.c (Rd.var (by walk_at "vr") ?_)))
      refine ⟨_, _, _, rfl, rfl, T.d_PART_WORDS_when, ?_⟩
      with_reducible refine Rd.nil ?_
      refine in_is_word_of (fun cdv Ar outer s hr => ?_) rfl
      have hu := hu_of hr
      refine ⟨_, (pss_one (ps_ret (pe_and (pe_callB (Rd.isi (K := K) rfl) (by rfl) T.n_isinstance (by decide +kernel) (pa_cons (pv 0) (pa_cons (pe_bltn (v := .ty "str") (u := .type "str") (by rfl) T.n_str (by decide +kernel) rfl) pa_nil))) (pe_one (pe_cmpR op_in_seq (pv 0) (pv 1) (by with_unfolding_all rfl)))))), ?_⟩
      try dsimp only [L2.cxOf, L2.Cx.nox, L2.Cx.wish]
      with_reducible refine Rd.ret (Rd.andV (Rd.cB (Rd.cons (Rd.var (by walk_at "vr") (Rd.cons (Rd.c (Rd.nil ?_)))))))
      refine ⟨_, _, _, _, _, rfl, (by walk_at "clsv"), (by walk_at "tyx"), (by walk_at "kit"), ?_⟩
      with_reducible refine Rd.bl (Rd.iteT (by first | with_unfolding_all rfl | walk_at "bT") (Rd.op (Rd.var (by walk_at "vr") (Rd.var (by walk_at "vr") ?_))))
      refine Rd.inT (.inr (by walk_at "hpt")) rfl (by walk_at "flt") ?_
      with_reducible refine Rd.bl (Rd.iteF (by walk_at "bF") (Rd.next (Rd.ifS (Rd.and (Rd.test (Rd.op (Rd.var (by walk_at "vr") (Rd.c (Rd.eqS (by walk_at "vr") (Rd.bl (Rd.iteF (by first | with_unfolding_all rfl | walk_at "bF") ?_)))))))))))
      with_reducible refine Rd.iteF rfl (Rd.next ?_)
      refine ⟨by walk_at "hpt", ?_⟩
      refine Rd.unrTNil ?_
      with_reducible refine Rd.ret (Rd.c (Rd.name ?_))
      try dsimp only [Int.reduceToNat, List.set]
      with_reducible refine Rd.seq (Rd.ifS (Rd.test (Rd.op (Rd.var (by walk_at "vr") (Rd.c (⟨rfl, (Rd.bl (Rd.iteF (by first | with_unfolding_all rfl | walk_at "bF") (Rd.next (Rd.sfld (Rd.var (by walk_at "vr") ?_)))))⟩))))))
      with_reducible refine Rd.var (by walk_at "vr") (⟨_, _, _, _, rfl, (by walk_at "hp"), T.k_Scheme, T.n_Scheme_parts, (by walk_at "sfl"), ?_⟩)
      rw [fS_put]
      exact k _ _ (by walk_at "frm") (by assumption) L2.upd_same (by walk_at "hp")
    · obtain ⟨pw, dw, rfl, hpw⟩ := hw
      have w1 : 0 ≤ s ∧ s ≤ 4 ∧ -20 ≤ b ∧ b ≤ 20 := w1
      obtain ⟨pf, rfl, hpf⟩ := hf
      have i4 : inV (.str kk) [.str "next", .str "note"] = true := Rd.inW (ws := ["next", "note"]) w4
      have n4 : (!inV (.str kk) [.str "next", .str "note"]) = false := Rd.notF i4
      have i2 : (!inV (.str sl) [.str "rest", .str "off", .str "mask"]) = false := Rd.notF (Rd.inW (ws := ["rest", "off", "mask"]) w2)
      have i3 : (!inV (.str em) [.str "same", .str "count", .str "note"]) = false := Rd.notF (Rd.inW (ws := ["same", "count", "note"]) w3)
      have i6 : (!inV (.str wn) [.str "refuse", .str "drop", .str "over"]) = false := Rd.notF (Rd.inW (ws := ["refuse", "drop", "over"]) w5)
      have m1 : decide (V.str sl = V.str "mask") = false := nmask (w6 _ _ rfl)
      refine ⟨_, (pss_cons (ps_set (i := 6) sc_Schemeu__initu_.nd rfl (Or.inl rfl) (pe_disp (pps_cons pe_str (pv 1) (pps_cons pe_str (pv 2) (pps_cons pe_str (pv 3) (pps_cons pe_str (pv 4) (pps_cons pe_str (pv 5) pps_nil))))) rfl rfl (by simp) (by decide)))
      (pss_cons (ps_set (i := 7) sc_Schemeu__initu_.nd rfl (Or.inl rfl) (pe_call (ok_first_wrong T) (hr.mono (by decide)) (by rfl) T.m_first_wrong T.F_first_wrong.kp T.b_first_wrong .nil pass0 (pa_cons (pv 6) pa_nil)))
      (pss_cons (ps_if (pt_cmpR op_notN (pv 7) pe_non (nomark _)) (pss_one ps_never) pss_nil)
      (pss_one (ps_fld (pv 0) (pv 6) rfl))))), ?_⟩
      try dsimp only [L2.cxOf, L2.Cx.nox, L2.Cx.wish]
      try rw [st_Schemeu__initu_]
      with_reducible refine Rd.seq (Rd.asg ?_)
      refine Rd.disp5 (fun _ _ h => Rd.var (by walk_at "vr") h) (fun _ _ h => Rd.var (by walk_at "vr") h) (fun _ _ h => Rd.var (by walk_at "vr") h) (fun _ _ h => Rd.var (by walk_at "vr") h) (fun _ _ h => Rd.var (by walk_at "vr") h) ?_
      intro pd366_16 npd366_16
      rw [kvP_merge]
      with_reducible refine Rd.name ?_
      try dsimp only [Int.reduceToNat, List.set]
      with_reducible refine Rd.seq (Rd.asg (Rd.call (Rd.cons (Rd.var (by walk_at "vr") (Rd.nil ?_)))))
      refine in_first_wrong (fun cdv Ar outer s hr => ?_) rfl
      have hu := hu_of hr
      refine ⟨_, (pss_cons (ps_for PassesOwn.never rfl (pi_tup (pe_glob (v := .ref A.t_PART_NAMES) rfl T.m_PART_NAMES rfl)) (pg_name (i := 1) sc_first_wrong.nd rfl (Or.inl rfl)) (pss_cons (ps_if (pt_not (pt_val (pe_call (ok_is_part T) (hr.mono (by decide)) (by rfl) T.m_is_part T.F_is_part.kp T.b_is_part .nil pass0 (pa_cons (pv 1) (pa_cons (pe_dget hu (pv 0) (pv 1) (fun _ _ => rfl)) pa_nil))))) (pss_one ps_never) pss_nil) (pss_one (ps_if (PW.pt (pw_and (pt_cmpR op_eq (pv 1) pe_str (nomark _)) (pw_and (pt_cmpR op_eq (pe_dget hu (pv 0) pe_str (fun _ _ => rfl)) pe_str (nomark _)) (pw_and1 Rd.ptN)))) (pss_one ps_never) pss_nil))))
            (pss_one (ps_ret pe_non))), ?_⟩
      try dsimp only [L2.cxOf, L2.Cx.nox, L2.Cx.wish]
      with_reducible refine Rd.seq (Rd.fr (Rd.it (Rd.c (⟨_, rfl, ?_⟩))))
      refine Rd.unrollT (by walk_at "hpt") ?_
      refine Rd.unrTCons ?_
      with_reducible refine Rd.name ?_
      dsimp only [List.set]
      with_reducible refine Rd.seq (Rd.ifS (Rd.not (Rd.tb (Rd.call (Rd.cons (Rd.var (by walk_at "vr") (Rd.cons (Rd.dget (Rd.var (by walk_at "vr") (Rd.var (by walk_at "vr") ?_))))))))))
      refine Rd.dget2 (by walk_at "hp") (by walk_at "dl") ?_
      with_reducible refine Rd.nil ?_
      refine in_is_part (fun cdv Ar outer s hr => ?_) rfl
      have hu := hu_of hr
      refine ⟨_, (pss_cons (ps_if (pt_cmpR op_eq (pv 0) pe_str (nomark _)) (pss_one (ps_ret (pe_call (ok_is_wrap T) (hr.mono (by decide)) (by rfl) T.m_is_wrap T.F_is_wrap.kp T.b_is_wrap .nil pass0 (pa_cons (pv 1) pa_nil)))) pss_nil)
            (pss_cons ps_never (pss_one ps_never))), ?_⟩
      try dsimp only [L2.cxOf, L2.Cx.nox, L2.Cx.wish]
      with_reducible refine Rd.seq (Rd.ifS (Rd.test (Rd.op (Rd.var (by walk_at "vr") (Rd.c (Rd.eqS (by walk_at "vr") (Rd.bl (Rd.iteT (by first | with_unfolding_all rfl | walk_at "bT") (Rd.ret (Rd.call (Rd.cons ?_)))))))))))
      with_reducible refine Rd.var (by walk_at "vr") (Rd.nil ?_)
      refine in_is_wrap (fun cdv Ar outer s hr => ?_) rfl
      have hu := hu_of hr
      refine ⟨_, (pss_one (ps_ret (pe_or (pe_call (ok_is_small_form T) (hr.mono (by decide)) (by rfl) T.m_is_small_form T.F_is_small_form.kp T.b_is_small_form .nil pass0 (pa_cons (pv 0) pa_nil)) (pe_one Rd.peN)))), ?_⟩
      try dsimp only [L2.cxOf, L2.Cx.nox, L2.Cx.wish]
      with_reducible refine Rd.ret (Rd.orV (Rd.call (Rd.cons (Rd.var (by walk_at "vr") (Rd.nil ?_)))))
      refine in_is_small_form (fun cdv Ar outer s hr => ?_) rfl
      have hu := hu_of hr
      refine ⟨_, (pss_cons (ps_if (pt_not (pt_val (pe_callB (Rd.isi (K := K) rfl) (by rfl) T.n_isinstance (by decide +kernel) (pa_cons (pv 0) (pa_cons (pe_glob (v := .ref A.c_Form) rfl T.m_Form rfl) pa_nil))))) (pss_one ps_never) pss_nil)
            (pss_one (ps_ret (pe_and (pe_chain op_le op_le pe_int (pe_fld (pv 0) rfl) (pe_glob (v := .int (4)) rfl T.m_GREATEST_SLOPE ⟨_, rfl⟩)) (pe_one (pe_chain op_le op_le (pe_un un_neg (pe_glob (v := .int (20)) rfl T.m_GREATEST_BASE ⟨_, rfl⟩)) (pe_fld (pv 0) rfl) (pe_glob (v := .int (20)) rfl T.m_GREATEST_BASE ⟨_, rfl⟩))))))), ?_⟩
      try dsimp only [L2.cxOf, L2.Cx.nox, L2.Cx.wish]
      with_reducible refine Rd.seq (Rd.ifS (Rd.not (Rd.tb (Rd.cB (Rd.cons (Rd.var (by walk_at "vr") (Rd.cons (Rd.c (Rd.nil ?_)))))))))
      refine ⟨_, _, _, _, _, rfl, (by walk_at "clsv"), (by walk_at "tyx"), (by walk_at "kit"), ?_⟩
      with_reducible refine Rd.bl (Rd.iteF (by first | with_unfolding_all rfl | walk_at "bF") (Rd.next (Rd.ret (Rd.andV (Rd.chain (Rd.c (Rd.fld (Rd.var (by walk_at "vr") (⟨_, _, _, _, _, rfl, (by walk_at "hp"), T.k_Form, T.n_Form_slope, (by walk_at "lk"), (Rd.i0 (Rd.bl ?_))⟩)))))))))
      with_reducible refine Rd.iteT (by walk_at "bT") (Rd.c (Rd.i0 (Rd.bl (Rd.iteT (by walk_at "bT") (Rd.chain (Rd.un (Rd.c (Rd.iU (Rd.fld (Rd.var (by walk_at "vr") (⟨_, _, _, _, _, rfl, (by walk_at "hp"), T.k_Form, T.n_Form_base, (by walk_at "lk"), ?_⟩)))))))))))
      with_reducible refine Rd.i0 (Rd.bl (Rd.iteT (by walk_at "bT") (Rd.c (Rd.i0 (Rd.bl (Rd.iteT (by first | with_unfolding_all rfl | walk_at "bT") (Rd.bl (Rd.iteF (by walk_at "bF") (Rd.next (Rd.ifS (Rd.and ?_)))))))))))
      with_reducible refine Rd.test (Rd.op (Rd.var (by walk_at "vr") (Rd.c (Rd.eqS (by walk_at "vr") (Rd.bl (Rd.iteF (by first | with_unfolding_all rfl | walk_at "bF") (Rd.iteF rfl (Rd.next ?_))))))))
      refine ⟨by walk_at "hpt", ?_⟩
      refine Rd.unrTCons ?_
      with_reducible refine Rd.name ?_
      dsimp only [List.set]
      with_reducible refine Rd.seq (Rd.ifS (Rd.not (Rd.tb (Rd.call (Rd.cons (Rd.var (by walk_at "vr") (Rd.cons (Rd.dget (Rd.var (by walk_at "vr") (Rd.var (by walk_at "vr") ?_))))))))))
      refine Rd.dget2 (by walk_at "hp") (by walk_at "dl") ?_
      with_reducible refine Rd.nil ?_
      refine in_is_part (fun cdv Ar outer s hr => ?_) rfl
      have hu := hu_of hr
      refine ⟨_, (pss_cons (ps_if (pt_cmpR op_eq (pv 0) pe_str (nomark _)) (pss_one ps_never) pss_nil)
            (pss_cons (ps_if (pt_cmpR op_eq (pv 0) pe_str (nomark _)) (pss_one ps_never) pss_nil)
            (pss_one (ps_ret (pe_call (ok_is_word_of T) (hr.mono (by decide)) (by rfl) T.m_is_word_of T.F_is_word_of.kp T.b_is_word_of .nil pass0 (pa_cons (pv 1) (pa_cons (pe_ix ix_kdict (pe_glob (v := .ref A.t_PART_WORDS) rfl T.m_PART_WORDS rfl) (pv 0) (fun _ _ => rfl)) pa_nil))))))), ?_⟩
      try dsimp only [L2.cxOf, L2.Cx.nox, L2.Cx.wish]
      with_reducible refine Rd.seq (Rd.ifS (Rd.test (Rd.op (Rd.var (by walk_at "vr") (Rd.c (Rd.eqS (by walk_at "vr") (Rd.bl (Rd.iteF (by first | with_unfolding_all rfl | walk_at "bF") (Rd.next (Rd.seq (Rd.ifS ?_)))))))))))
      with_reducible refine Rd.test (Rd.op (Rd.var (by walk_at "vr") (Rd.c (Rd.eqS (by walk_at "vr") (Rd.bl (Rd.iteF (by first | with_unfolding_all rfl | walk_at "bF") (Rd.next (Rd.ret (Rd.call (Rd.cons (Rd.var (by walk_at "vr") ?_)))))))))))
      with_reducible refine Rd.cons (Rd.op (Rd.c (Rd.var (by walk_at "vr") ?_)))
      refine ⟨_, _, _, rfl, rfl, T.d_PART_WORDS_slot, ?_⟩
      with_reducible refine Rd.nil ?_
      refine in_is_word_of (fun cdv Ar outer s hr => ?_) rfl
      have hu := hu_of hr
      refine ⟨_, (pss_one (ps_ret (pe_and (pe_callB (Rd.isi (K := K) rfl) (by rfl) T.n_isinstance (by decide +kernel) (pa_cons (pv 0) (pa_cons (pe_bltn (v := .ty "str") (u := .type "str") (by rfl) T.n_str (by decide +kernel) rfl) pa_nil))) (pe_one (pe_cmpR op_in_seq (pv 0) (pv 1) (by with_unfolding_all rfl)))))), ?_⟩
      try dsimp only [L2.cxOf, L2.Cx.nox, L2.Cx.wish]
      with_reducible refine Rd.ret (Rd.andV (Rd.cB (Rd.cons (Rd.var (by walk_at "vr") (Rd.cons (Rd.c (Rd.nil ?_)))))))
      refine ⟨_, _, _, _, _, rfl, (by walk_at "clsv"), (by walk_at "tyx"), (by walk_at "kit"), ?_⟩
      with_reducible refine Rd.bl (Rd.iteT (by first | with_unfolding_all rfl | walk_at "bT") (Rd.op (Rd.var (by walk_at "vr") (Rd.var (by walk_at "vr") ?_))))
      refine Rd.inT (.inr (by walk_at "hpt")) rfl (by walk_at "flt") ?_
      with_reducible refine Rd.bl (Rd.iteF (by walk_at "bF") (Rd.next (Rd.ifS (Rd.and (Rd.test (Rd.op (Rd.var (by walk_at "vr") (Rd.c (Rd.eqS (by walk_at "vr") (Rd.bl (Rd.iteT (by first | with_unfolding_all rfl | walk_at "bT") ?_)))))))))))
      with_reducible refine Rd.and (Rd.test (Rd.op (Rd.dget (Rd.var (by walk_at "vr") (Rd.c ?_)))))
      refine Rd.dget2 (by walk_at "hp") (by walk_at "dl") ?_
      with_reducible refine Rd.c (Rd.eqS (by walk_at "vr") (Rd.bl (Rd.iteF (by walk_at "bF") (Rd.iteF rfl (Rd.next ?_)))))
      refine ⟨by walk_at "hpt", ?_⟩
      refine Rd.unrTCons ?_
      with_reducible refine Rd.name ?_
      dsimp only [List.set]
      with_reducible refine Rd.seq (Rd.ifS (Rd.not (Rd.tb (Rd.call (Rd.cons (Rd.var (by walk_at "vr") (Rd.cons (Rd.dget (Rd.var (by walk_at "vr") (Rd.var (by walk_at "vr") ?_))))))))))
      refine Rd.dget2 (by walk_at "hp") (by walk_at "dl") ?_
      with_reducible refine Rd.nil ?_
      refine in_is_part (fun cdv Ar outer s hr => ?_) rfl
      have hu := hu_of hr
      refine ⟨_, (pss_cons (ps_if (pt_cmpR op_eq (pv 0) pe_str (nomark _)) (pss_one ps_never) pss_nil)
            (pss_cons (ps_if (pt_cmpR op_eq (pv 0) pe_str (nomark _)) (pss_one ps_never) pss_nil)
            (pss_one (ps_ret (pe_call (ok_is_word_of T) (hr.mono (by decide)) (by rfl) T.m_is_word_of T.F_is_word_of.kp T.b_is_word_of .nil pass0 (pa_cons (pv 1) (pa_cons (pe_ix ix_kdict (pe_glob (v := .ref A.t_PART_WORDS) rfl T.m_PART_WORDS rfl) (pv 0) (fun _ _ => rfl)) pa_nil))))))), ?_⟩
      try dsimp only [L2.cxOf, L2.Cx.nox, L2.Cx.wish]
      with_reducible refine Rd.seq (Rd.ifS (Rd.test (Rd.op (Rd.var (by walk_at "vr") (Rd.c (Rd.eqS (by walk_at "vr") (Rd.bl (Rd.iteF (by first | with_unfolding_all rfl | walk_at "bF") (Rd.next (Rd.seq (Rd.ifS ?_)))))))))))
      with_reducible refine Rd.test (Rd.op (Rd.var (by walk_at "vr") (Rd.c (Rd.eqS (by walk_at "vr") (Rd.bl (Rd.iteF (by first | with_unfolding_all rfl | walk_at "bF") (Rd.next (Rd.ret (Rd.call (Rd.cons (Rd.var (by walk_at "vr") ?_)))))))))))
      with_reducible refine Rd.cons (Rd.op (Rd.c (Rd.var (by walk_at "vr") ?_)))
      refine ⟨_, _, _, rfl, rfl, T.d_PART_WORDS_empty, ?_⟩
      with_reducible refine Rd.nil ?_
      refine in_is_word_of (fun cdv Ar outer s hr => ?_) rfl
      have hu := hu_of hr
      refine ⟨_, (pss_one (ps_ret (pe_and (pe_callB (Rd.isi (K := K) rfl) (by rfl) T.n_isinstance (by decide +kernel) (pa_cons (pv 0) (pa_cons (pe_bltn (v := .ty "str") (u := .type "str") (by rfl) T.n_str (by decide +kernel) rfl) pa_nil))) (pe_one (pe_cmpR op_in_seq (pv 0) (pv 1) (by with_unfolding_all rfl)))))), ?_⟩
      try dsimp only [L2.cxOf, L2.Cx.nox, L2.Cx.wish]
      with_reducible refine Rd.ret (Rd.andV (Rd.cB (Rd.cons (Rd.var (by walk_at "vr") (Rd.cons (Rd.c (Rd.nil ?_)))))))
      refine ⟨_, _, _, _, _, rfl, (by walk_at "clsv"), (by walk_at "tyx"), (by walk_at "kit"), ?_⟩
      with_reducible refine Rd.bl (Rd.iteT (by first | with_unfolding_all rfl | walk_at "bT") (Rd.op (Rd.var (by walk_at "vr") (Rd.var (by walk_at "vr") ?_))))
      refine Rd.inT (.inr (by walk_at "hpt")) rfl (by walk_at "flt") ?_
      with_reducible refine Rd.bl (Rd.iteF (by walk_at "bF") (Rd.next (Rd.ifS (Rd.and (Rd.test (Rd.op (Rd.var (by walk_at "vr") (Rd.c (Rd.eqS (by walk_at "vr") (Rd.bl (Rd.iteF (by first | with_unfolding_all rfl | walk_at "bF") ?_)))))))))))
      with_reducible refine Rd.iteF rfl (Rd.next ?_)
      refine ⟨by walk_at "hpt", ?_⟩
      refine Rd.unrTCons ?_
      with_reducible refine Rd.name ?_
      dsimp only [List.set]
      with_reducible refine Rd.seq (Rd.ifS (Rd.not (Rd.tb (Rd.call (Rd.cons (Rd.var (by walk_at "vr") (Rd.cons (Rd.dget (Rd.var (by walk_at "vr") (Rd.var (by walk_at "vr") ?_))))))))))
      refine Rd.dget2 (by walk_at "hp") (by walk_at "dl") ?_
      with_reducible refine Rd.nil ?_
      refine in_is_part (fun cdv Ar outer s hr => ?_) rfl
      have hu := hu_of hr
      refine ⟨_, (pss_cons (ps_if (pt_cmpR op_eq (pv 0) pe_str (nomark _)) (pss_one ps_never) pss_nil)
            (pss_cons (ps_if (pt_cmpR op_eq (pv 0) pe_str (nomark _)) (pss_one (ps_ret (pe_call (ok_is_full T) (hr.mono (by decide)) (by rfl) T.m_is_full T.F_is_full.kp T.b_is_full .nil pass0 (pa_cons (pv 1) pa_nil)))) pss_nil)
            (pss_one ps_never))), ?_⟩
      try dsimp only [L2.cxOf, L2.Cx.nox, L2.Cx.wish]
      with_reducible refine Rd.seq (Rd.ifS (Rd.test (Rd.op (Rd.var (by walk_at "vr") (Rd.c (Rd.eqS (by walk_at "vr") (Rd.bl (Rd.iteF (by first | with_unfolding_all rfl | walk_at "bF") (Rd.next (Rd.seq (Rd.ifS ?_)))))))))))
      with_reducible refine Rd.test (Rd.op (Rd.var (by walk_at "vr") (Rd.c (Rd.eqS (by walk_at "vr") (Rd.bl (Rd.iteT (by first | with_unfolding_all rfl | walk_at "bT") (Rd.ret (Rd.call (Rd.cons (Rd.var (by walk_at "vr") (Rd.nil ?_)))))))))))
      refine in_is_full (fun cdv Ar outer s hr => ?_) rfl
      have hu := hu_of hr
      refine ⟨_, (pss_cons (ps_if (pt_not (pt_val (pe_callB (Rd.isi (K := K) rfl) (by rfl) T.n_isinstance (by decide +kernel) (pa_cons (pv 0) (pa_cons (pe_bltn (v := .ty "tuple") (u := .type "tuple") (by rfl) T.n_tuple (by decide +kernel) rfl) pa_nil))))) (pss_one ps_never) pss_nil)
            (pss_cons (ps_if (pt_cmpR op_eq (pe_callB call_len_seq (by rfl) T.n_len PySem.boot_len (pa_cons (pv 0) pa_nil)) pe_int (nomark _)) (pss_one (ps_ret (pe_call (ok_is_word_of T) (hr.mono (by decide)) (by rfl) T.m_is_word_of T.F_is_word_of.kp T.b_is_word_of .nil pass0 (pa_cons (pe_ix (Rd.ixTK rfl) (pv 0) pe_int (fun _ _ => rfl)) (pa_cons (pe_glob (v := .ref A.t_PLAIN_FULLS) rfl T.m_PLAIN_FULLS rfl) pa_nil))))) pss_nil)
            (pss_cons ps_never (pss_one ps_never)))), ?_⟩
      try dsimp only [L2.cxOf, L2.Cx.nox, L2.Cx.wish]
      with_reducible refine Rd.seq (Rd.ifS (Rd.not (Rd.tb (Rd.cB (Rd.cons (Rd.var (by walk_at "vr") (Rd.cons (Rd.c (Rd.nil ?_)))))))))
      refine ⟨_, _, _, _, _, rfl, (by walk_at "clsv"), (by walk_at "tyx"), (by walk_at "kit"), ?_⟩
      with_reducible refine Rd.bl (Rd.iteF (by first | with_unfolding_all rfl | walk_at "bF") (Rd.next (Rd.seq (Rd.ifS (Rd.test (Rd.op (Rd.cB (Rd.cons (Rd.var (by walk_at "vr") (Rd.nil (⟨_, _, rfl, (by walk_at "hpq"), ?_⟩)))))))))))
      with_reducible refine Rd.c (Rd.eqS (by walk_at "vr") (Rd.bl (Rd.iteT (by first | with_unfolding_all rfl | walk_at "bT") (Rd.ret (Rd.call (Rd.cons (Rd.op (Rd.var (by walk_at "vr") (Rd.c (Rd.ixT (by walk_at "hpt") (by walk_at "vr") (Rd.cons ?_)))))))))))
      with_reducible refine Rd.c (Rd.nil ?_)
      refine in_is_word_of (fun cdv Ar outer s hr => ?_) rfl
      have hu := hu_of hr
      refine ⟨_, (pss_one (ps_ret (pe_and (pe_callB (Rd.isi (K := K) rfl) (by rfl) T.n_isinstance (by decide +kernel) (pa_cons (pv 0) (pa_cons (pe_bltn (v := .ty "str") (u := .type "str") (by rfl) T.n_str (by decide +kernel) rfl) pa_nil))) (pe_one (pe_cmpR op_in_seq (pv 0) (pv 1) (by with_unfolding_all rfl)))))), ?_⟩
      try dsimp only [L2.cxOf, L2.Cx.nox, L2.Cx.wish]
      with_reducible refine Rd.ret (Rd.andV (Rd.cB (Rd.cons (Rd.var (by walk_at "vr") (Rd.cons (Rd.c (Rd.nil ?_)))))))
      refine ⟨_, _, _, _, _, rfl, (by walk_at "clsv"), (by walk_at "tyx"), (by walk_at "kit"), ?_⟩
      with_reducible refine Rd.bl (Rd.iteT (by first | with_unfolding_all rfl | walk_at "bT") (Rd.op (Rd.var (by walk_at "vr") (Rd.var (by walk_at "vr") ?_))))
      refine Rd.inT (.inr (by walk_at "hpt")) rfl (by walk_at "flt") ?_
      with_reducible refine Rd.bl (Rd.iteF (by walk_at "bF") (Rd.next (Rd.ifS (Rd.and (Rd.test (Rd.op (Rd.var (by walk_at "vr") (Rd.c (Rd.eqS (by walk_at "vr") (Rd.bl (Rd.iteF (by first | with_unfolding_all rfl | walk_at "bF") ?_)))))))))))
      with_reducible refine Rd.iteF rfl (Rd.next ?_)
      refine ⟨by walk_at "hpt", ?_⟩
      refine Rd.unrTCons ?_
      with_reducible refine Rd.name ?_
      dsimp only [List.set]
      with_reducible refine Rd.seq (Rd.ifS (Rd.not (Rd.tb (Rd.call (Rd.cons (Rd.var (by walk_at "vr") (Rd.cons (Rd.dget (Rd.var (by walk_at "vr") (Rd.var (by walk_at "vr") ?_))))))))))
      refine Rd.dget2 (by walk_at "hp") (by walk_at "dl") ?_
      with_reducible refine Rd.nil ?_
      refine in_is_part (fun cdv Ar outer s hr => ?_) rfl
      have hu := hu_of hr
      refine ⟨_, (pss_cons (ps_if (pt_cmpR op_eq (pv 0) pe_str (nomark _)) (pss_one ps_never) pss_nil)
            (pss_cons (ps_if (pt_cmpR op_eq (pv 0) pe_str (nomark _)) (pss_one ps_never) pss_nil)
            (pss_one (ps_ret (pe_call (ok_is_word_of T) (hr.mono (by decide)) (by rfl) T.m_is_word_of T.F_is_word_of.kp T.b_is_word_of .nil pass0 (pa_cons (pv 1) (pa_cons (pe_ix ix_kdict (pe_glob (v := .ref A.t_PART_WORDS) rfl T.m_PART_WORDS rfl) (pv 0) (fun _ _ => rfl)) pa_nil))))))), ?_⟩
      try dsimp only [L2.cxOf, L2.Cx.nox, L2.Cx.wish]
      with_reducible refine Rd.seq (Rd.ifS (Rd.test (Rd.op (Rd.var (by walk_at "vr") (Rd.c (Rd.eqS (by walk_at "vr") (Rd.bl (Rd.iteF (by first | with_unfolding_all rfl | walk_at "bF") (Rd.next (Rd.seq (Rd.ifS ?_)))))))))))
      with_reducible refine Rd.test (Rd.op (Rd.var (by walk_at "vr") (Rd.c (Rd.eqS (by walk_at "vr") (Rd.bl (Rd.iteF (by first | with_unfolding_all rfl | walk_at "bF") (Rd.next (Rd.ret (Rd.call (Rd.cons (Rd.var (by walk_at "vr") ?_)))))))))))
      with_reducible refine Rd.cons (Rd.op (Rd.c (Rd.var (by walk_at "vr") ?_)))
      refine ⟨_, _, _, rfl, rfl, T.d_PART_WORDS_when, ?_⟩
      with_reducible refine Rd.nil ?_
      refine in_is_word_of (fun cdv Ar outer s hr => ?_) rfl
      have hu := hu_of hr
      refine ⟨_, (pss_one (ps_ret (pe_and (pe_callB (Rd.isi (K := K) rfl) (by rfl) T.n_isinstance (by decide +kernel) (pa_cons (pv 0) (pa_cons (pe_bltn (v := .ty "str") (u := .type "str") (by rfl) T.n_str (by decide +kernel) rfl) pa_nil))) (pe_one (pe_cmpR op_in_seq (pv 0) (pv 1) (by with_unfolding_all rfl)))))), ?_⟩
      try dsimp only [L2.cxOf, L2.Cx.nox, L2.Cx.wish]
      with_reducible refine Rd.ret (Rd.andV (Rd.cB (Rd.cons (Rd.var (by walk_at "vr") (Rd.cons (Rd.c (Rd.nil ?_)))))))
      refine ⟨_, _, _, _, _, rfl, (by walk_at "clsv"), (by walk_at "tyx"), (by walk_at "kit"), ?_⟩
      with_reducible refine Rd.bl (Rd.iteT (by first | with_unfolding_all rfl | walk_at "bT") (Rd.op (Rd.var (by walk_at "vr") (Rd.var (by walk_at "vr") ?_))))
      refine Rd.inT (.inr (by walk_at "hpt")) rfl (by walk_at "flt") ?_
      with_reducible refine Rd.bl (Rd.iteF (by walk_at "bF") (Rd.next (Rd.ifS (Rd.and (Rd.test (Rd.op (Rd.var (by walk_at "vr") (Rd.c (Rd.eqS (by walk_at "vr") (Rd.bl (Rd.iteF (by first | with_unfolding_all rfl | walk_at "bF") ?_)))))))))))
      with_reducible refine Rd.iteF rfl (Rd.next ?_)
      refine ⟨by walk_at "hpt", ?_⟩
      refine Rd.unrTNil ?_
      with_reducible refine Rd.ret (Rd.c (Rd.name ?_))
      try dsimp only [Int.reduceToNat, List.set]
      with_reducible refine Rd.seq (Rd.ifS (Rd.test (Rd.op (Rd.var (by walk_at "vr") (Rd.c (⟨rfl, (Rd.bl (Rd.iteF (by first | with_unfolding_all rfl | walk_at "bF") (Rd.next (Rd.sfld (Rd.var (by walk_at "vr") ?_)))))⟩))))))
      with_reducible refine Rd.var (by walk_at "vr") (⟨_, _, _, _, rfl, (by walk_at "hp"), T.k_Scheme, T.n_Scheme_parts, (by walk_at "sfl"), ?_⟩)
      rw [fS_put]
      exact k _ _ (by walk_at "frm") (by assumption) L2.upd_same (by walk_at "hp")
    · obtain ⟨pw, dw, rfl, hpw⟩ := hw
      have w1 : 0 ≤ s ∧ s ≤ 4 ∧ -20 ≤ b ∧ b ≤ 20 := w1
      obtain ⟨pf, qf, dqf, rfl, hpf, hqf⟩ := hf
      obtain ⟨f1, f2, f3⟩ := w4
      have i4 : inV (.str kk) [.str "diff", .str "count"] = true := Rd.inW (ws := ["diff", "count"]) f1
      have i5 : inV (.str g) [.str "=", .str ">="] = true := Rd.inW (ws := ["=", ">="]) f2
      have i2 : (!inV (.str sl) [.str "rest", .str "off", .str "mask"]) = false := Rd.notF (Rd.inW (ws := ["rest", "off", "mask"]) w2)
      have i3 : (!inV (.str em) [.str "same", .str "count", .str "note"]) = false := Rd.notF (Rd.inW (ws := ["same", "count", "note"]) w3)
      have i6 : (!inV (.str wn) [.str "refuse", .str "drop", .str "over"]) = false := Rd.notF (Rd.inW (ws := ["refuse", "drop", "over"]) w5)
      have m1 : decide (V.str sl = V.str "mask") = false := nmask (w6 _ _ rfl)
      refine ⟨_, (pss_cons (ps_set (i := 6) sc_Schemeu__initu_.nd rfl (Or.inl rfl) (pe_disp (pps_cons pe_str (pv 1) (pps_cons pe_str (pv 2) (pps_cons pe_str (pv 3) (pps_cons pe_str (pv 4) (pps_cons pe_str (pv 5) pps_nil))))) rfl rfl (by simp) (by decide)))
      (pss_cons (ps_set (i := 7) sc_Schemeu__initu_.nd rfl (Or.inl rfl) (pe_call (ok_first_wrong T) (hr.mono (by decide)) (by rfl) T.m_first_wrong T.F_first_wrong.kp T.b_first_wrong .nil pass0 (pa_cons (pv 6) pa_nil)))
      (pss_cons (ps_if (pt_cmpR op_notN (pv 7) pe_non (nomark _)) (pss_one ps_never) pss_nil)
      (pss_one (ps_fld (pv 0) (pv 6) rfl))))), ?_⟩
      try dsimp only [L2.cxOf, L2.Cx.nox, L2.Cx.wish]
      try rw [st_Schemeu__initu_]
      with_reducible refine Rd.seq (Rd.asg ?_)
      refine Rd.disp5 (fun _ _ h => Rd.var (by walk_at "vr") h) (fun _ _ h => Rd.var (by walk_at "vr") h) (fun _ _ h => Rd.var (by walk_at "vr") h) (fun _ _ h => Rd.var (by walk_at "vr") h) (fun _ _ h => Rd.var (by walk_at "vr") h) ?_
      intro pd366_16 npd366_16
      rw [kvP_merge]
      with_reducible refine Rd.name ?_
      try dsimp only [Int.reduceToNat, List.set]
      with_reducible refine Rd.seq (Rd.asg (Rd.call (Rd.cons (Rd.var (by walk_at "vr") (Rd.nil ?_)))))
      refine in_first_wrong (fun cdv Ar outer s hr => ?_) rfl
      have hu := hu_of hr
      refine ⟨_, (pss_cons (ps_for PassesOwn.never rfl (pi_tup (pe_glob (v := .ref A.t_PART_NAMES) rfl T.m_PART_NAMES rfl)) (pg_name (i := 1) sc_first_wrong.nd rfl (Or.inl rfl)) (pss_cons (ps_if (pt_not (pt_val (pe_call (ok_is_part T) (hr.mono (by decide)) (by rfl) T.m_is_part T.F_is_part.kp T.b_is_part .nil pass0 (pa_cons (pv 1) (pa_cons (pe_dget hu (pv 0) (pv 1) (fun _ _ => rfl)) pa_nil))))) (pss_one ps_never) pss_nil) (pss_one (ps_if (PW.pt (pw_and (pt_cmpR op_eq (pv 1) pe_str (nomark _)) (pw_and (pt_cmpR op_eq (pe_dget hu (pv 0) pe_str (fun _ _ => rfl)) pe_str (nomark _)) (pw_and1 Rd.ptN)))) (pss_one ps_never) pss_nil))))
            (pss_one (ps_ret pe_non))), ?_⟩
      try dsimp only [L2.cxOf, L2.Cx.nox, L2.Cx.wish]
      with_reducible refine Rd.seq (Rd.fr (Rd.it (Rd.c (⟨_, rfl, ?_⟩))))
      refine Rd.unrollT (by walk_at "hpt") ?_
      refine Rd.unrTCons ?_
      with_reducible refine Rd.name ?_
      dsimp only [List.set]
      with_reducible refine Rd.seq (Rd.ifS (Rd.not (Rd.tb (Rd.call (Rd.cons (Rd.var (by walk_at "vr") (Rd.cons (Rd.dget (Rd.var (by walk_at "vr") (Rd.var (by walk_at "vr") ?_))))))))))
      refine Rd.dget2 (by walk_at "hp") (by walk_at "dl") ?_
      with_reducible refine Rd.nil ?_
      refine in_is_part (fun cdv Ar outer s hr => ?_) rfl
      have hu := hu_of hr
      refine ⟨_, (pss_cons (ps_if (pt_cmpR op_eq (pv 0) pe_str (nomark _)) (pss_one (ps_ret (pe_call (ok_is_wrap T) (hr.mono (by decide)) (by rfl) T.m_is_wrap T.F_is_wrap.kp T.b_is_wrap .nil pass0 (pa_cons (pv 1) pa_nil)))) pss_nil)
            (pss_cons ps_never (pss_one ps_never))), ?_⟩
      try dsimp only [L2.cxOf, L2.Cx.nox, L2.Cx.wish]
      with_reducible refine Rd.seq (Rd.ifS (Rd.test (Rd.op (Rd.var (by walk_at "vr") (Rd.c (Rd.eqS (by walk_at "vr") (Rd.bl (Rd.iteT (by first | with_unfolding_all rfl | walk_at "bT") (Rd.ret (Rd.call (Rd.cons ?_)))))))))))
      with_reducible refine Rd.var (by walk_at "vr") (Rd.nil ?_)
      refine in_is_wrap (fun cdv Ar outer s hr => ?_) rfl
      have hu := hu_of hr
      refine ⟨_, (pss_one (ps_ret (pe_or (pe_call (ok_is_small_form T) (hr.mono (by decide)) (by rfl) T.m_is_small_form T.F_is_small_form.kp T.b_is_small_form .nil pass0 (pa_cons (pv 0) pa_nil)) (pe_one Rd.peN)))), ?_⟩
      try dsimp only [L2.cxOf, L2.Cx.nox, L2.Cx.wish]
      with_reducible refine Rd.ret (Rd.orV (Rd.call (Rd.cons (Rd.var (by walk_at "vr") (Rd.nil ?_)))))
      refine in_is_small_form (fun cdv Ar outer s hr => ?_) rfl
      have hu := hu_of hr
      refine ⟨_, (pss_cons (ps_if (pt_not (pt_val (pe_callB (Rd.isi (K := K) rfl) (by rfl) T.n_isinstance (by decide +kernel) (pa_cons (pv 0) (pa_cons (pe_glob (v := .ref A.c_Form) rfl T.m_Form rfl) pa_nil))))) (pss_one ps_never) pss_nil)
            (pss_one (ps_ret (pe_and (pe_chain op_le op_le pe_int (pe_fld (pv 0) rfl) (pe_glob (v := .int (4)) rfl T.m_GREATEST_SLOPE ⟨_, rfl⟩)) (pe_one (pe_chain op_le op_le (pe_un un_neg (pe_glob (v := .int (20)) rfl T.m_GREATEST_BASE ⟨_, rfl⟩)) (pe_fld (pv 0) rfl) (pe_glob (v := .int (20)) rfl T.m_GREATEST_BASE ⟨_, rfl⟩))))))), ?_⟩
      try dsimp only [L2.cxOf, L2.Cx.nox, L2.Cx.wish]
      with_reducible refine Rd.seq (Rd.ifS (Rd.not (Rd.tb (Rd.cB (Rd.cons (Rd.var (by walk_at "vr") (Rd.cons (Rd.c (Rd.nil ?_)))))))))
      refine ⟨_, _, _, _, _, rfl, (by walk_at "clsv"), (by walk_at "tyx"), (by walk_at "kit"), ?_⟩
      with_reducible refine Rd.bl (Rd.iteF (by first | with_unfolding_all rfl | walk_at "bF") (Rd.next (Rd.ret (Rd.andV (Rd.chain (Rd.c (Rd.fld (Rd.var (by walk_at "vr") (⟨_, _, _, _, _, rfl, (by walk_at "hp"), T.k_Form, T.n_Form_slope, (by walk_at "lk"), (Rd.i0 (Rd.bl ?_))⟩)))))))))
      with_reducible refine Rd.iteT (by walk_at "bT") (Rd.c (Rd.i0 (Rd.bl (Rd.iteT (by walk_at "bT") (Rd.chain (Rd.un (Rd.c (Rd.iU (Rd.fld (Rd.var (by walk_at "vr") (⟨_, _, _, _, _, rfl, (by walk_at "hp"), T.k_Form, T.n_Form_base, (by walk_at "lk"), ?_⟩)))))))))))
      with_reducible refine Rd.i0 (Rd.bl (Rd.iteT (by walk_at "bT") (Rd.c (Rd.i0 (Rd.bl (Rd.iteT (by first | with_unfolding_all rfl | walk_at "bT") (Rd.bl (Rd.iteF (by walk_at "bF") (Rd.next (Rd.ifS (Rd.and ?_)))))))))))
      with_reducible refine Rd.test (Rd.op (Rd.var (by walk_at "vr") (Rd.c (Rd.eqS (by walk_at "vr") (Rd.bl (Rd.iteF (by first | with_unfolding_all rfl | walk_at "bF") (Rd.iteF rfl (Rd.next ?_))))))))
      refine ⟨by walk_at "hpt", ?_⟩
      refine Rd.unrTCons ?_
      with_reducible refine Rd.name ?_
      dsimp only [List.set]
      with_reducible refine Rd.seq (Rd.ifS (Rd.not (Rd.tb (Rd.call (Rd.cons (Rd.var (by walk_at "vr") (Rd.cons (Rd.dget (Rd.var (by walk_at "vr") (Rd.var (by walk_at "vr") ?_))))))))))
      refine Rd.dget2 (by walk_at "hp") (by walk_at "dl") ?_
      with_reducible refine Rd.nil ?_
      refine in_is_part (fun cdv Ar outer s hr => ?_) rfl
      have hu := hu_of hr
      refine ⟨_, (pss_cons (ps_if (pt_cmpR op_eq (pv 0) pe_str (nomark _)) (pss_one ps_never) pss_nil)
            (pss_cons (ps_if (pt_cmpR op_eq (pv 0) pe_str (nomark _)) (pss_one ps_never) pss_nil)
            (pss_one (ps_ret (pe_call (ok_is_word_of T) (hr.mono (by decide)) (by rfl) T.m_is_word_of T.F_is_word_of.kp T.b_is_word_of .nil pass0 (pa_cons (pv 1) (pa_cons (pe_ix ix_kdict (pe_glob (v := .ref A.t_PART_WORDS) rfl T.m_PART_WORDS rfl) (pv 0) (fun _ _ => rfl)) pa_nil))))))), ?_⟩
      try dsimp only [L2.cxOf, L2.Cx.nox, L2.Cx.wish]
      with_reducible refine Rd.seq (Rd.ifS (Rd.test (Rd.op (Rd.var (by walk_at "vr") (Rd.c (Rd.eqS (by walk_at "vr") (Rd.bl (Rd.iteF (by first | with_unfolding_all rfl | walk_at "bF") (Rd.next (Rd.seq (Rd.ifS ?_)))))))))))
      with_reducible refine Rd.test (Rd.op (Rd.var (by walk_at "vr") (Rd.c (Rd.eqS (by walk_at "vr") (Rd.bl (Rd.iteF (by first | with_unfolding_all rfl | walk_at "bF") (Rd.next (Rd.ret (Rd.call (Rd.cons (Rd.var (by walk_at "vr") ?_)))))))))))
      with_reducible refine Rd.cons (Rd.op (Rd.c (Rd.var (by walk_at "vr") ?_)))
      refine ⟨_, _, _, rfl, rfl, T.d_PART_WORDS_slot, ?_⟩
      with_reducible refine Rd.nil ?_
      refine in_is_word_of (fun cdv Ar outer s hr => ?_) rfl
      have hu := hu_of hr
      refine ⟨_, (pss_one (ps_ret (pe_and (pe_callB (Rd.isi (K := K) rfl) (by rfl) T.n_isinstance (by decide +kernel) (pa_cons (pv 0) (pa_cons (pe_bltn (v := .ty "str") (u := .type "str") (by rfl) T.n_str (by decide +kernel) rfl) pa_nil))) (pe_one (pe_cmpR op_in_seq (pv 0) (pv 1) (by with_unfolding_all rfl)))))), ?_⟩
      try dsimp only [L2.cxOf, L2.Cx.nox, L2.Cx.wish]
      with_reducible refine Rd.ret (Rd.andV (Rd.cB (Rd.cons (Rd.var (by walk_at "vr") (Rd.cons (Rd.c (Rd.nil ?_)))))))
      refine ⟨_, _, _, _, _, rfl, (by walk_at "clsv"), (by walk_at "tyx"), (by walk_at "kit"), ?_⟩
      with_reducible refine Rd.bl (Rd.iteT (by first | with_unfolding_all rfl | walk_at "bT") (Rd.op (Rd.var (by walk_at "vr") (Rd.var (by walk_at "vr") ?_))))
      refine Rd.inT (.inr (by walk_at "hpt")) rfl (by walk_at "flt") ?_
      with_reducible refine Rd.bl (Rd.iteF (by walk_at "bF") (Rd.next (Rd.ifS (Rd.and (Rd.test (Rd.op (Rd.var (by walk_at "vr") (Rd.c (Rd.eqS (by walk_at "vr") (Rd.bl (Rd.iteT (by first | with_unfolding_all rfl | walk_at "bT") ?_)))))))))))
      with_reducible refine Rd.and (Rd.test (Rd.op (Rd.dget (Rd.var (by walk_at "vr") (Rd.c ?_)))))
      refine Rd.dget2 (by walk_at "hp") (by walk_at "dl") ?_
      with_reducible refine Rd.c (Rd.eqS (by walk_at "vr") (Rd.bl (Rd.iteF (by walk_at "bF") (Rd.iteF rfl (Rd.next ?_)))))
      refine ⟨by walk_at "hpt", ?_⟩
      refine Rd.unrTCons ?_
      with_reducible refine Rd.name ?_
      dsimp only [List.set]
      with_reducible refine Rd.seq (Rd.ifS (Rd.not (Rd.tb (Rd.call (Rd.cons (Rd.var (by walk_at "vr") (Rd.cons (Rd.dget (Rd.var (by walk_at "vr") (Rd.var (by walk_at "vr") ?_))))))))))
      refine Rd.dget2 (by walk_at "hp") (by walk_at "dl") ?_
      with_reducible refine Rd.nil ?_
      refine in_is_part (fun cdv Ar outer s hr => ?_) rfl
      have hu := hu_of hr
      refine ⟨_, (pss_cons (ps_if (pt_cmpR op_eq (pv 0) pe_str (nomark _)) (pss_one ps_never) pss_nil)
            (pss_cons (ps_if (pt_cmpR op_eq (pv 0) pe_str (nomark _)) (pss_one ps_never) pss_nil)
            (pss_one (ps_ret (pe_call (ok_is_word_of T) (hr.mono (by decide)) (by rfl) T.m_is_word_of T.F_is_word_of.kp T.b_is_word_of .nil pass0 (pa_cons (pv 1) (pa_cons (pe_ix ix_kdict (pe_glob (v := .ref A.t_PART_WORDS) rfl T.m_PART_WORDS rfl) (pv 0) (fun _ _ => rfl)) pa_nil))))))), ?_⟩
      try dsimp only [L2.cxOf, L2.Cx.nox, L2.Cx.wish]
      with_reducible refine Rd.seq (Rd.ifS (Rd.test (Rd.op (Rd.var (by walk_at "vr") (Rd.c (Rd.eqS (by walk_at "vr") (Rd.bl (Rd.iteF (by first | with_unfolding_all rfl | walk_at "bF") (Rd.next (Rd.seq (Rd.ifS ?_)))))))))))
      with_reducible refine Rd.test (Rd.op (Rd.var (by walk_at "vr") (Rd.c (Rd.eqS (by walk_at "vr") (Rd.bl (Rd.iteF (by first | with_unfolding_all rfl | walk_at "bF") (Rd.next (Rd.ret (Rd.call (Rd.cons (Rd.var (by walk_at "vr") ?_)))))))))))
      with_reducible refine Rd.cons (Rd.op (Rd.c (Rd.var (by walk_at "vr") ?_)))
      refine ⟨_, _, _, rfl, rfl, T.d_PART_WORDS_empty, ?_⟩
      with_reducible refine Rd.nil ?_
      refine in_is_word_of (fun cdv Ar outer s hr => ?_) rfl
      have hu := hu_of hr
      refine ⟨_, (pss_one (ps_ret (pe_and (pe_callB (Rd.isi (K := K) rfl) (by rfl) T.n_isinstance (by decide +kernel) (pa_cons (pv 0) (pa_cons (pe_bltn (v := .ty "str") (u := .type "str") (by rfl) T.n_str (by decide +kernel) rfl) pa_nil))) (pe_one (pe_cmpR op_in_seq (pv 0) (pv 1) (by with_unfolding_all rfl)))))), ?_⟩
      try dsimp only [L2.cxOf, L2.Cx.nox, L2.Cx.wish]
      with_reducible refine Rd.ret (Rd.andV (Rd.cB (Rd.cons (Rd.var (by walk_at "vr") (Rd.cons (Rd.c (Rd.nil ?_)))))))
      refine ⟨_, _, _, _, _, rfl, (by walk_at "clsv"), (by walk_at "tyx"), (by walk_at "kit"), ?_⟩
      with_reducible refine Rd.bl (Rd.iteT (by first | with_unfolding_all rfl | walk_at "bT") (Rd.op (Rd.var (by walk_at "vr") (Rd.var (by walk_at "vr") ?_))))
      refine Rd.inT (.inr (by walk_at "hpt")) rfl (by walk_at "flt") ?_
      with_reducible refine Rd.bl (Rd.iteF (by walk_at "bF") (Rd.next (Rd.ifS (Rd.and (Rd.test (Rd.op (Rd.var (by walk_at "vr") (Rd.c (Rd.eqS (by walk_at "vr") (Rd.bl (Rd.iteF (by first | with_unfolding_all rfl | walk_at "bF") ?_)))))))))))
      with_reducible refine Rd.iteF rfl (Rd.next ?_)
      refine ⟨by walk_at "hpt", ?_⟩
      refine Rd.unrTCons ?_
      with_reducible refine Rd.name ?_
      dsimp only [List.set]
      with_reducible refine Rd.seq (Rd.ifS (Rd.not (Rd.tb (Rd.call (Rd.cons (Rd.var (by walk_at "vr") (Rd.cons (Rd.dget (Rd.var (by walk_at "vr") (Rd.var (by walk_at "vr") ?_))))))))))
      refine Rd.dget2 (by walk_at "hp") (by walk_at "dl") ?_
      with_reducible refine Rd.nil ?_
      refine in_is_part (fun cdv Ar outer s hr => ?_) rfl
      have hu := hu_of hr
      refine ⟨_, (pss_cons (ps_if (pt_cmpR op_eq (pv 0) pe_str (nomark _)) (pss_one ps_never) pss_nil)
            (pss_cons (ps_if (pt_cmpR op_eq (pv 0) pe_str (nomark _)) (pss_one (ps_ret (pe_call (ok_is_full T) (hr.mono (by decide)) (by rfl) T.m_is_full T.F_is_full.kp T.b_is_full .nil pass0 (pa_cons (pv 1) pa_nil)))) pss_nil)
            (pss_one ps_never))), ?_⟩
      try dsimp only [L2.cxOf, L2.Cx.nox, L2.Cx.wish]
      with_reducible refine Rd.seq (Rd.ifS (Rd.test (Rd.op (Rd.var (by walk_at "vr") (Rd.c (Rd.eqS (by walk_at "vr") (Rd.bl (Rd.iteF (by first | with_unfolding_all rfl | walk_at "bF") (Rd.next (Rd.seq (Rd.ifS ?_)))))))))))
      with_reducible refine Rd.test (Rd.op (Rd.var (by walk_at "vr") (Rd.c (Rd.eqS (by walk_at "vr") (Rd.bl (Rd.iteT (by first | with_unfolding_all rfl | walk_at "bT") (Rd.ret (Rd.call (Rd.cons (Rd.var (by walk_at "vr") (Rd.nil ?_)))))))))))
      refine in_is_full (fun cdv Ar outer s hr => ?_) rfl
      have hu := hu_of hr
      refine ⟨_, (pss_cons (ps_if (pt_not (pt_val (pe_callB (Rd.isi (K := K) rfl) (by rfl) T.n_isinstance (by decide +kernel) (pa_cons (pv 0) (pa_cons (pe_bltn (v := .ty "tuple") (u := .type "tuple") (by rfl) T.n_tuple (by decide +kernel) rfl) pa_nil))))) (pss_one ps_never) pss_nil)
            (pss_cons (ps_if (pt_cmpR op_eq (pe_callB call_len_seq (by rfl) T.n_len PySem.boot_len (pa_cons (pv 0) pa_nil)) pe_int (nomark _)) (pss_one ps_never) pss_nil)
            (pss_cons (ps_if (pt_cmpR op_ne (pe_callB call_len_seq (by rfl) T.n_len PySem.boot_len (pa_cons (pv 0) pa_nil)) pe_int (nomark _)) (pss_one ps_never) pss_nil)
            (pss_one (ps_ret (pe_and (pe_call (ok_is_word_of T) (hr.mono (by decide)) (by rfl) T.m_is_word_of T.F_is_word_of.kp T.b_is_word_of .nil pass0 (pa_cons (pe_ix (Rd.ixTK rfl) (pv 0) pe_int (fun _ _ => rfl)) (pa_cons (pe_glob (v := .ref A.t_MEASURES) rfl T.m_MEASURES rfl) pa_nil))) (pe_and (pe_call (ok_is_word_of T) (hr.mono (by decide)) (by rfl) T.m_is_word_of T.F_is_word_of.kp T.b_is_word_of .nil pass0 (pa_cons (pe_ix (Rd.ixTK rfl) (pv 0) pe_int (fun _ _ => rfl)) (pa_cons (pe_glob (v := .ref A.t_SIGNS) rfl T.m_SIGNS rfl) pa_nil))) (pe_one (pe_call (ok_is_small_form T) (hr.mono (by decide)) (by rfl) T.m_is_small_form T.F_is_small_form.kp T.b_is_small_form .nil pass0 (pa_cons (pe_ix (Rd.ixTK rfl) (pv 0) pe_int (fun _ _ => rfl)) pa_nil)))))))))), ?_⟩
      try dsimp only [L2.cxOf, L2.Cx.nox, L2.Cx.wish]
      with_reducible refine Rd.seq (Rd.ifS (Rd.not (Rd.tb (Rd.cB (Rd.cons (Rd.var (by walk_at "vr") (Rd.cons (Rd.c (Rd.nil ?_)))))))))
      refine ⟨_, _, _, _, _, rfl, (by walk_at "clsv"), (by walk_at "tyx"), (by walk_at "kit"), ?_⟩
      with_reducible refine Rd.bl (Rd.iteF (by first | with_unfolding_all rfl | walk_at "bF") (Rd.next (Rd.seq (Rd.ifS (Rd.test (Rd.op (Rd.cB (Rd.cons (Rd.var (by walk_at "vr") (Rd.nil (⟨_, _, rfl, (by walk_at "hpq"), ?_⟩)))))))))))
      with_reducible refine Rd.c (Rd.eqS (by walk_at "vr") (Rd.bl (Rd.iteF (by first | with_unfolding_all rfl | walk_at "bF") (Rd.next (Rd.seq (Rd.ifS (Rd.test (Rd.op (Rd.cB (Rd.cons (Rd.var (by walk_at "vr") ?_)))))))))))
      with_reducible refine Rd.nil (⟨_, _, rfl, (by walk_at "hpq"), (Rd.c (Rd.neS (by walk_at "vr") (Rd.bl (Rd.iteF (by first | with_unfolding_all rfl | walk_at "bF") (Rd.next (Rd.ret (Rd.andV (Rd.call (Rd.cons (Rd.op ?_))))))))))⟩)
      with_reducible refine Rd.var (by walk_at "vr") (Rd.c (Rd.ixT (by walk_at "hpt") (by walk_at "vr") (Rd.cons (Rd.c (Rd.nil ?_)))))
      refine in_is_word_of (fun cdv Ar outer s hr => ?_) rfl
      have hu := hu_of hr
      refine ⟨_, (pss_one (ps_ret (pe_and (pe_callB (Rd.isi (K := K) rfl) (by rfl) T.n_isinstance (by decide +kernel) (pa_cons (pv 0) (pa_cons (pe_bltn (v := .ty "str") (u := .type "str") (by rfl) T.n_str (by decide +kernel) rfl) pa_nil))) (pe_one (pe_cmpR op_in_seq (pv 0) (pv 1) (by with_unfolding_all rfl)))))), ?_⟩
      try dsimp only [L2.cxOf, L2.Cx.nox, L2.Cx.wish]
      with_reducible refine Rd.ret (Rd.andV (Rd.cB (Rd.cons (Rd.var (by walk_at "vr") (Rd.cons (Rd.c (Rd.nil ?_)))))))
      refine ⟨_, _, _, _, _, rfl, (by walk_at "clsv"), (by walk_at "tyx"), (by walk_at "kit"), ?_⟩
      with_reducible refine Rd.bl (Rd.iteT (by first | with_unfolding_all rfl | walk_at "bT") (Rd.op (Rd.var (by walk_at "vr") (Rd.var (by walk_at "vr") ?_))))
      refine Rd.inT (.inr (by walk_at "hpt")) rfl (by walk_at "flt") ?_
      with_reducible refine Rd.bl (Rd.iteT (by walk_at "bT") (Rd.andV (Rd.call (Rd.cons (Rd.op (Rd.var (by walk_at "vr") (Rd.c (Rd.ixT (by walk_at "hpt") (by walk_at "vr") (Rd.cons (Rd.c (Rd.nil ?_)))))))))))
      refine in_is_word_of (fun cdv Ar outer s hr => ?_) rfl
      have hu := hu_of hr
      refine ⟨_, (pss_one (ps_ret (pe_and (pe_callB (Rd.isi (K := K) rfl) (by rfl) T.n_isinstance (by decide +kernel) (pa_cons (pv 0) (pa_cons (pe_bltn (v := .ty "str") (u := .type "str") (by rfl) T.n_str (by decide +kernel) rfl) pa_nil))) (pe_one (pe_cmpR op_in_seq (pv 0) (pv 1) (by with_unfolding_all rfl)))))), ?_⟩
      try dsimp only [L2.cxOf, L2.Cx.nox, L2.Cx.wish]
      with_reducible refine Rd.ret (Rd.andV (Rd.cB (Rd.cons (Rd.var (by walk_at "vr") (Rd.cons (Rd.c (Rd.nil ?_)))))))
      refine ⟨_, _, _, _, _, rfl, (by walk_at "clsv"), (by walk_at "tyx"), (by walk_at "kit"), ?_⟩
      with_reducible refine Rd.bl (Rd.iteT (by first | with_unfolding_all rfl | walk_at "bT") (Rd.op (Rd.var (by walk_at "vr") (Rd.var (by walk_at "vr") ?_))))
      refine Rd.inT (.inr (by walk_at "hpt")) rfl (by walk_at "flt") ?_
      with_reducible refine Rd.bl (Rd.iteT (by walk_at "bT") (Rd.call (Rd.cons (Rd.op (Rd.var (by walk_at "vr") (Rd.c (Rd.ixT (by walk_at "hpt") (by walk_at "vr") (Rd.nil ?_))))))))
      refine in_is_small_form (fun cdv Ar outer s hr => ?_) rfl
      have hu := hu_of hr
      refine ⟨_, (pss_cons (ps_if (pt_not (pt_val (pe_callB (Rd.isi (K := K) rfl) (by rfl) T.n_isinstance (by decide +kernel) (pa_cons (pv 0) (pa_cons (pe_glob (v := .ref A.c_Form) rfl T.m_Form rfl) pa_nil))))) (pss_one ps_never) pss_nil)
            (pss_one (ps_ret (pe_and (pe_chain op_le op_le pe_int (pe_fld (pv 0) rfl) (pe_glob (v := .int (4)) rfl T.m_GREATEST_SLOPE ⟨_, rfl⟩)) (pe_one (pe_chain op_le op_le (pe_un un_neg (pe_glob (v := .int (20)) rfl T.m_GREATEST_BASE ⟨_, rfl⟩)) (pe_fld (pv 0) rfl) (pe_glob (v := .int (20)) rfl T.m_GREATEST_BASE ⟨_, rfl⟩))))))), ?_⟩
      try dsimp only [L2.cxOf, L2.Cx.nox, L2.Cx.wish]
      with_reducible refine Rd.seq (Rd.ifS (Rd.not (Rd.tb (Rd.cB (Rd.cons (Rd.var (by walk_at "vr") (Rd.cons (Rd.c (Rd.nil ?_)))))))))
      refine ⟨_, _, _, _, _, rfl, (by walk_at "clsv"), (by walk_at "tyx"), (by walk_at "kit"), ?_⟩
      with_reducible refine Rd.bl (Rd.iteF (by first | with_unfolding_all rfl | walk_at "bF") (Rd.next (Rd.ret (Rd.andV (Rd.chain (Rd.c (Rd.fld (Rd.var (by walk_at "vr") (⟨_, _, _, _, _, rfl, (by walk_at "hp"), T.k_Form, T.n_Form_slope, (by walk_at "lk"), (Rd.i0 (Rd.bl ?_))⟩)))))))))
      with_reducible refine Rd.iteT (by walk_at "bT") (Rd.c (Rd.i0 (Rd.bl (Rd.iteT (by walk_at "bT") (Rd.chain (Rd.un (Rd.c (Rd.iU (Rd.fld (Rd.var (by walk_at "vr") (⟨_, _, _, _, _, rfl, (by walk_at "hp"), T.k_Form, T.n_Form_base, (by walk_at "lk"), ?_⟩)))))))))))
      with_reducible refine Rd.i0 (Rd.bl (Rd.iteT (by walk_at "bT") (Rd.c (Rd.i0 (Rd.bl (Rd.iteF (by walk_at "bF") (Rd.next (Rd.ifS (Rd.and (Rd.test (Rd.op ?_)))))))))))
      with_reducible refine Rd.var (by walk_at "vr") (Rd.c (Rd.eqS (by walk_at "vr") (Rd.bl (Rd.iteF (by first | with_unfolding_all rfl | walk_at "bF") (Rd.iteF rfl (Rd.next ?_))))))
      refine ⟨by walk_at "hpt", ?_⟩
      refine Rd.unrTCons ?_
      with_reducible refine Rd.name ?_
      dsimp only [List.set]
      with_reducible refine Rd.seq (Rd.ifS (Rd.not (Rd.tb (Rd.call (Rd.cons (Rd.var (by walk_at "vr") (Rd.cons (Rd.dget (Rd.var (by walk_at "vr") (Rd.var (by walk_at "vr") ?_))))))))))
      refine Rd.dget2 (by walk_at "hp") (by walk_at "dl") ?_
      with_reducible refine Rd.nil ?_
      refine in_is_part (fun cdv Ar outer s hr => ?_) rfl
      have hu := hu_of hr
      refine ⟨_, (pss_cons (ps_if (pt_cmpR op_eq (pv 0) pe_str (nomark _)) (pss_one ps_never) pss_nil)
            (pss_cons (ps_if (pt_cmpR op_eq (pv 0) pe_str (nomark _)) (pss_one ps_never) pss_nil)
            (pss_one (ps_ret (pe_call (ok_is_word_of T) (hr.mono (by decide)) (by rfl) T.m_is_word_of T.F_is_word_of.kp T.b_is_word_of .nil pass0 (pa_cons (pv 1) (pa_cons (pe_ix ix_kdict (pe_glob (v := .ref A.t_PART_WORDS) rfl T.m_PART_WORDS rfl) (pv 0) (fun _ _ => rfl)) pa_nil))))))), ?_⟩
      try dsimp only [L2.cxOf, L2.Cx.nox, L2.Cx.wish]
      with_reducible refine Rd.seq (Rd.ifS (Rd.test (Rd.op (Rd.var (by walk_at "vr") (Rd.c (Rd.eqS (by walk_at "vr") (Rd.bl (Rd.iteF (by first | with_unfolding_all rfl | walk_at "bF") (Rd.next (Rd.seq (Rd.ifS ?_)))))))))))
      with_reducible refine Rd.test (Rd.op (Rd.var (by walk_at "vr") (Rd.c (Rd.eqS (by walk_at "vr") (Rd.bl (Rd.iteF (by first | with_unfolding_all rfl | walk_at "bF") (Rd.next (Rd.ret (Rd.call (Rd.cons (Rd.var (by walk_at "vr") ?_)))))))))))
      with_reducible refine Rd.cons (Rd.op (Rd.c (Rd.var (by walk_at "vr") ?_)))
      refine ⟨_, _, _, rfl, rfl, T.d_PART_WORDS_when, ?_⟩
      with_reducible refine Rd.nil ?_
      refine in_is_word_of (fun cdv Ar outer s hr => ?_) rfl
      have hu := hu_of hr
      refine ⟨_, (pss_one (ps_ret (pe_and (pe_callB (Rd.isi (K := K) rfl) (by rfl) T.n_isinstance (by decide +kernel) (pa_cons (pv 0) (pa_cons (pe_bltn (v := .ty "str") (u := .type "str") (by rfl) T.n_str (by decide +kernel) rfl) pa_nil))) (pe_one (pe_cmpR op_in_seq (pv 0) (pv 1) (by with_unfolding_all rfl)))))), ?_⟩
      try dsimp only [L2.cxOf, L2.Cx.nox, L2.Cx.wish]
      with_reducible refine Rd.ret (Rd.andV (Rd.cB (Rd.cons (Rd.var (by walk_at "vr") (Rd.cons (Rd.c (Rd.nil ?_)))))))
      refine ⟨_, _, _, _, _, rfl, (by walk_at "clsv"), (by walk_at "tyx"), (by walk_at "kit"), ?_⟩
      with_reducible refine Rd.bl (Rd.iteT (by first | with_unfolding_all rfl | walk_at "bT") (Rd.op (Rd.var (by walk_at "vr") (Rd.var (by walk_at "vr") ?_))))
      refine Rd.inT (.inr (by walk_at "hpt")) rfl (by walk_at "flt") ?_
      with_reducible refine Rd.bl (Rd.iteF (by walk_at "bF") (Rd.next (Rd.ifS (Rd.and (Rd.test (Rd.op (Rd.var (by walk_at "vr") (Rd.c (Rd.eqS (by walk_at "vr") (Rd.bl (Rd.iteF (by first | with_unfolding_all rfl | walk_at "bF") ?_)))))))))))
      with_reducible refine Rd.iteF rfl (Rd.next ?_)
      refine ⟨by walk_at "hpt", ?_⟩
      refine Rd.unrTNil ?_
      with_reducible refine Rd.ret (Rd.c (Rd.name ?_))
      try dsimp only [Int.reduceToNat, List.set]
      with_reducible refine Rd.seq (Rd.ifS (Rd.test (Rd.op (Rd.var (by walk_at "vr") (Rd.c (⟨rfl, (Rd.bl (Rd.iteF (by first | with_unfolding_all rfl | walk_at "bF") (Rd.next (Rd.sfld (Rd.var (by walk_at "vr") ?_)))))⟩))))))
      with_reducible refine Rd.var (by walk_at "vr") (⟨_, _, _, _, rfl, (by walk_at "hp"), T.k_Scheme, T.n_Scheme_parts, (by walk_at "sfl"), ?_⟩)
      rw [fS_put]
      exact k _ _ (by walk_at "frm") (by assumption) L2.upd_same (by walk_at "hp")
/-! _law_mixed -/
theorem sc_l_mixed : FnScope ["_law_number", "_law_place", "_law_many", "_law_first", "_law_second"] ["_law_number", "_law_place", "_law_many"] (defScope s_l_mixed) := ⟨rfl, rfl, rfl, by decide +kernel, rfl, by decide +kernel, by decide +kernel⟩
abbrev sp_l_mixed (K : PySem.W.Frag) (A : Adr) : Sp := fun vs H Q _ => ∃ i j m : Int, vs = [.int i, .int j, .int m] ∧ 0 < m ∧ m < 2 ^ 190 ∧ ∀ d, 0 ≤ d → d < m → Q (.int d) H
theorem ok_l_mixed (T : Txt w K mg A) : FnOk P w K mg base CX0 1 A.f_l_mixed A.d_l_mixed ["_law_number", "_law_place", "_law_many"] (sp_l_mixed K A) := by
  refine T.F_l_mixed.ok sc_l_mixed (fun vs H Q E h => ?_) (fun cdv Ar outer s H vs Q E hr h => ?_)
  · obtain ⟨i, j, m, rfl, m1, m2, k⟩ := h
    rfl
  · obtain ⟨i, j, m, rfl, m1, m2, k⟩ := h
    have hu := hu_of hr
    have t_q_PART_NAMES := T.q_PART_NAMES
    have t_q_PART_WORDS_slot := T.q_PART_WORDS_slot
    have t_d_PART_WORDS_slot := T.d_PART_WORDS_slot
    have t_q_PART_WORDS_empty := T.q_PART_WORDS_empty
    have t_d_PART_WORDS_empty := T.d_PART_WORDS_empty
    have t_q_PART_WORDS_when := T.q_PART_WORDS_when
    have t_d_PART_WORDS_when := T.d_PART_WORDS_when
    have t_q_MEASURES := T.q_MEASURES
    have t_q_SIGNS := T.q_SIGNS
    have t_q_PLAIN_FULLS := T.q_PLAIN_FULLS
    have t_i_Form := T.i_Form
    have t_kt_Form_Form := T.kt_Form_Form
    have t_kt_int_Form := T.kt_int_Form
    have t_i_SizeSet := T.i_SizeSet
    have t_kt_SizeSet_SizeSet := T.kt_SizeSet_SizeSet
    have t_kt_tuple_SizeSet := T.kt_tuple_SizeSet
    have t_nf_Form_Form := T.nf_Form_Form
    have t_nf_int_Form := T.nf_int_Form
    have t_nf_SizeSet_SizeSet := T.nf_SizeSet_SizeSet
    have t_nf_tuple_SizeSet := T.nf_tuple_SizeSet
    have t_xm_NoSize_NoSize := T.xm_NoSize_NoSize
    have t_xm_NoRing_NoSize := T.xm_NoRing_NoSize
    have t_xm_NoRing_NoRing := T.xm_NoRing_NoRing
    have t_xm_NotDecided_NoSize := T.xm_NotDecided_NoSize
    have t_xm_NotDecided_NoRing := T.xm_NotDecided_NoRing
    have t_xm_NotDecided_NotDecided := T.xm_NotDecided_NotDecided
    have t_xm_NoLag_NoSize := T.xm_NoLag_NoSize
    have t_xm_NoLag_NoRing := T.xm_NoLag_NoRing
    have t_xm_NoLag_NotDecided := T.xm_NoLag_NotDecided
    have t_xm_NoLag_NoLag := T.xm_NoLag_NoLag
    have t_xm_TooLong_TooLong := T.xm_TooLong_TooLong
    have t_k_Form := T.k_Form
    have t_k_Scheme := T.k_Scheme
    have t_k_Belief := T.k_Belief
    have t_k_SizeSet := T.k_SizeSet
    refine ⟨_, (pss_cons (ps_set (i := 3) sc_l_mixed.nd rfl (Or.inl rfl) (pe_op op_mod (pe_callTy call_int1 (by rfl) T.n_int (by decide +kernel) (pa_cons (pe_op op_add (pe_op op_add (pe_op op_mul (pv 0) pe_int) (pe_op op_mul (pv 1) pe_int)) pe_int) pa_nil)) pe_int))
      (pss_cons (ps_set (i := 4) sc_l_mixed.nd rfl (Or.inl rfl) (pe_op op_mod (pe_callTy call_int1 (by rfl) T.n_int (by decide +kernel) (pa_cons (pe_op op_add (pe_op op_add (pe_op op_mul (pv 3) pe_int) (pe_op op_mul (pv 1) pe_int)) pe_int) pa_nil)) pe_int))
      (pss_one (ps_ret (pe_op op_mod (pe_callTy call_int1 (by rfl) T.n_int (by decide +kernel) (pa_cons (pv 4) pa_nil)) (pv 2)))))), ?_⟩
    try dsimp only [L2.cxOf, L2.Cx.nox, L2.Cx.wish]
    with_reducible refine Rd.seq (Rd.asg (Rd.op (Rd.cB (Rd.cons (Rd.op (Rd.op (Rd.op (Rd.var (by walk_at "vr") (Rd.c ?_)))))))))
    refine Rd.iC (Or.inr (by decide)) ?_
    with_reducible refine Rd.op (Rd.var (by walk_at "vr") (Rd.c ?_))
    refine Rd.iC (Or.inr (by decide)) ?_
    with_reducible refine Rd.i0 (Rd.c (Rd.i0 (Rd.nil ((.inl ⟨_, rfl, (Rd.c (Rd.iC (by walk_at "sc") (Rd.name (Rd.seq (Rd.asg (Rd.op (Rd.cB ?_)))))))⟩)))))
    with_reducible refine Rd.cons (Rd.op (Rd.op (Rd.op (Rd.var (by walk_at "vr") (Rd.c ?_)))))
    refine Rd.iC (Or.inr (by decide)) ?_
    with_reducible refine Rd.op (Rd.var (by walk_at "vr") (Rd.c ?_))
    refine Rd.iC (Or.inr (by decide)) ?_
    with_reducible refine Rd.i0 (Rd.c (Rd.i0 (Rd.nil ((.inl ⟨_, rfl, (Rd.c (Rd.iC (by walk_at "sc") (Rd.name (Rd.ret (Rd.op (Rd.cB (Rd.cons ?_)))))))⟩)))))
    with_reducible refine Rd.var (by walk_at "vr") (Rd.nil ((.inl ⟨_, rfl, (Rd.var (by walk_at "vr") (Rd.iC (by walk_at "sc") ?_))⟩)))
    exact k _ (Int.emod_nonneg _ (by omega)) (Int.emod_lt_of_pos _ m1)
/-! _law_pool -/
theorem sc_l_pool : FnScope ["_law_script", "_law_cell"] ["_law_script"] (defScope s_l_pool) := ⟨rfl, rfl, rfl, by decide +kernel, rfl, by decide +kernel, by decide +kernel⟩
abbrev sp_l_pool (K : PySem.W.Frag) (A : Adr) : Sp := fun vs H Q _ => ∃ (a : Addr) (ns : List Int), vs = [.ref a] ∧ SqL K H a (ns.map V.int) ∧ ns.length ≤ 63 ∧ ∀ (p : Addr) (o : HO) (H' : Hp), Same H H' → H p = none → H' p = some o → PoolO H' p o → Q (.ref p) H'
theorem ok_l_pool (T : Txt w K mg A) : FnOk P w K mg base CX0 1 A.f_l_pool A.d_l_pool ["_law_script"] (sp_l_pool K A) := by
  refine T.F_l_pool.ok sc_l_pool (fun vs H Q E h => ?_) (fun cdv Ar outer s H vs Q E hr h => ?_)
  · obtain ⟨a, ns, rfl, hl, hn, k⟩ := h
    rfl
  · obtain ⟨a, ns, rfl, hl, hn, k⟩ := h
    have hu := hu_of hr
    have t_q_PART_NAMES := T.q_PART_NAMES
    have t_q_PART_WORDS_slot := T.q_PART_WORDS_slot
    have t_d_PART_WORDS_slot := T.d_PART_WORDS_slot
    have t_q_PART_WORDS_empty := T.q_PART_WORDS_empty
    have t_d_PART_WORDS_empty := T.d_PART_WORDS_empty
    have t_q_PART_WORDS_when := T.q_PART_WORDS_when
    have t_d_PART_WORDS_when := T.d_PART_WORDS_when
    have t_q_MEASURES := T.q_MEASURES
    have t_q_SIGNS := T.q_SIGNS
    have t_q_PLAIN_FULLS := T.q_PLAIN_FULLS
    have t_i_Form := T.i_Form
    have t_kt_Form_Form := T.kt_Form_Form
    have t_kt_int_Form := T.kt_int_Form
    have t_i_SizeSet := T.i_SizeSet
    have t_kt_SizeSet_SizeSet := T.kt_SizeSet_SizeSet
    have t_kt_tuple_SizeSet := T.kt_tuple_SizeSet
    have t_nf_Form_Form := T.nf_Form_Form
    have t_nf_int_Form := T.nf_int_Form
    have t_nf_SizeSet_SizeSet := T.nf_SizeSet_SizeSet
    have t_nf_tuple_SizeSet := T.nf_tuple_SizeSet
    have t_xm_NoSize_NoSize := T.xm_NoSize_NoSize
    have t_xm_NoRing_NoSize := T.xm_NoRing_NoSize
    have t_xm_NoRing_NoRing := T.xm_NoRing_NoRing
    have t_xm_NotDecided_NoSize := T.xm_NotDecided_NoSize
    have t_xm_NotDecided_NoRing := T.xm_NotDecided_NoRing
    have t_xm_NotDecided_NotDecided := T.xm_NotDecided_NotDecided
    have t_xm_NoLag_NoSize := T.xm_NoLag_NoSize
    have t_xm_NoLag_NoRing := T.xm_NoLag_NoRing
    have t_xm_NoLag_NotDecided := T.xm_NoLag_NotDecided
    have t_xm_NoLag_NoLag := T.xm_NoLag_NoLag
    have t_xm_TooLong_TooLong := T.xm_TooLong_TooLong
    have t_k_Form := T.k_Form
    have t_k_Scheme := T.k_Scheme
    have t_k_Belief := T.k_Belief
    have t_k_SizeSet := T.k_SizeSet
    refine ⟨_, (pss_one (ps_ret (pe_lst (pa_cons (pe_lc (own := [("_law_cell", 1)]) (g := gName 1) rfl sc_l_pool.nd (pi_list (pv 0)) (blkOk_by (own := [("_law_cell", 1)]) (N := ["_law_script", "_law_cell"]) (sc := defScope s_l_pool) (by decide +kernel)) (fun _ _ _ _ _ => pg_name (i := 1) sc_l_pool.nd rfl (Or.inl rfl)) (fun _ _ _ _ _ => pts_nil) (fun _ _ _ _ _ => (pe_callTy call_int1 (by rfl) T.n_int (by decide +kernel) (pa_cons (pv 1) pa_nil)))) (pa_cons pe_int (pa_cons pe_int (pa_cons pe_int (pa_cons (pe_un un_neg pe_int) pa_nil)))))))), ?_⟩
    try dsimp only [L2.cxOf, L2.Cx.nox, L2.Cx.wish]
    with_reducible refine Rd.ret (Rd.lst (Rd.cons ?_))
    refine Rd.lcVarI (g := fun n => n) (ns := ns) (by walk_at "vr") (by walk_at "hpl") (by omega) (by intro _; rfl) (fun n hnn H1 S1 R1 k1 => ?lca1) (fun p1 H1 np1 S1 hp1 => ?_)
    case lca1 =>
      skip
      with_reducible refine Rd.cB (Rd.cons (Rd.var (by walk_at "vr") (Rd.nil ((.inl ⟨_, rfl, ?_⟩)))))
      exact k1 _ (Same.refl _)
    rotate_left 0
    with_reducible refine Rd.cons (Rd.c (Rd.cons (Rd.c (Rd.cons (Rd.c (Rd.cons (Rd.un (Rd.c (Rd.iU (Rd.nil (Rd.laid (by walk_at "ll") ?_)))))))))))
    intro p0 np0
    exact k _ _ _ (by walk_at "frm") (by walk_at "nn") L2.upd_same (.put (by walk_at "hp") (by walk_at "ne") (Int.le_refl 0))
/-! _law_draw -/
theorem sc_l_draw : FnScope ["_law_pool_here", "_law_many", "_law_cells", "_law_cell", "_law_told", "_law_last"] ["_law_pool_here", "_law_many"] (defScope s_l_draw) := ⟨rfl, rfl, rfl, by decide +kernel, rfl, by decide +kernel, by decide +kernel⟩
abbrev sp_l_draw (K : PySem.W.Frag) (A : Adr) : Sp := fun vs H Q _ => ∃ (a : Addr) (o : HO) (m : Int), vs = [.ref a, .int m] ∧ H a = some o ∧ PoolO H a o ∧ 0 < m ∧ m < 2 ^ 190 ∧ ∀ (d : Int) (o' : HO), 0 ≤ d → d < m → PoolO (upd H a o') a o' → Q (.int d) (upd H a o')
theorem ok_l_draw (T : Txt w K mg A) : FnOk P w K mg base CX0 2 A.f_l_draw A.d_l_draw ["_law_pool_here", "_law_many"] (sp_l_draw K A) := by
  refine T.F_l_draw.ok sc_l_draw (fun vs H Q E h => ?_) (fun cdv Ar outer s H vs Q E hr h => ?_)
  · obtain ⟨a, o, m, rfl, ha, ⟨l, ns, i, u, c, g, rfl, hl, hne, i0⟩, m1, m2, k⟩ := h
    rfl
  · obtain ⟨a, o, m, rfl, ha, ⟨l, ns, i, u, c, g, rfl, hl, hne, i0⟩, m1, m2, k⟩ := h
    have hu := hu_of hr
    have t_q_PART_NAMES := T.q_PART_NAMES
    have t_q_PART_WORDS_slot := T.q_PART_WORDS_slot
    have t_d_PART_WORDS_slot := T.d_PART_WORDS_slot
    have t_q_PART_WORDS_empty := T.q_PART_WORDS_empty
    have t_d_PART_WORDS_empty := T.d_PART_WORDS_empty
    have t_q_PART_WORDS_when := T.q_PART_WORDS_when
    have t_d_PART_WORDS_when := T.d_PART_WORDS_when
    have t_q_MEASURES := T.q_MEASURES
    have t_q_SIGNS := T.q_SIGNS
    have t_q_PLAIN_FULLS := T.q_PLAIN_FULLS
    have t_i_Form := T.i_Form
    have t_kt_Form_Form := T.kt_Form_Form
    have t_kt_int_Form := T.kt_int_Form
    have t_i_SizeSet := T.i_SizeSet
    have t_kt_SizeSet_SizeSet := T.kt_SizeSet_SizeSet
    have t_kt_tuple_SizeSet := T.kt_tuple_SizeSet
    have t_nf_Form_Form := T.nf_Form_Form
    have t_nf_int_Form := T.nf_int_Form
    have t_nf_SizeSet_SizeSet := T.nf_SizeSet_SizeSet
    have t_nf_tuple_SizeSet := T.nf_tuple_SizeSet
    have t_xm_NoSize_NoSize := T.xm_NoSize_NoSize
    have t_xm_NoRing_NoSize := T.xm_NoRing_NoSize
    have t_xm_NoRing_NoRing := T.xm_NoRing_NoRing
    have t_xm_NotDecided_NoSize := T.xm_NotDecided_NoSize
    have t_xm_NotDecided_NoRing := T.xm_NotDecided_NoRing
    have t_xm_NotDecided_NotDecided := T.xm_NotDecided_NotDecided
    have t_xm_NoLag_NoSize := T.xm_NoLag_NoSize
    have t_xm_NoLag_NoRing := T.xm_NoLag_NoRing
    have t_xm_NoLag_NotDecided := T.xm_NoLag_NotDecided
    have t_xm_NoLag_NoLag := T.xm_NoLag_NoLag
    have t_xm_TooLong_TooLong := T.xm_TooLong_TooLong
    have t_k_Form := T.k_Form
    have t_k_Scheme := T.k_Scheme
    have t_k_Belief := T.k_Belief
    have t_k_SizeSet := T.k_SizeSet
    have g1 := Int.emod_nonneg g (show m ≠ 0 by omega)
    have g2 := Int.emod_lt_of_pos g m1
    refine ⟨_, (pss_cons (ps_set (i := 2) sc_l_draw.nd rfl (Or.inl rfl) (pe_ix (Rd.ixLK rfl) (pv 0) pe_int (fun _ _ => rfl)))
      (pss_cons (ps_asg (pe_op op_add (pe_ix (Rd.ixLK rfl) (pv 0) pe_int (fun _ _ => rfl)) pe_int) (pg_sub (pv 0) pe_int set_list))
      (pss_cons (ps_if (pt_cmpR op_ge (pe_ix (Rd.ixLK rfl) (pv 0) pe_int (fun _ _ => rfl)) (pe_callB call_len_seq (by rfl) T.n_len PySem.boot_len (pa_cons (pv 2) pa_nil)) (nomark _)) (pss_one (ps_ret (pe_call (ok_l_mixed T) (hr.mono (by decide)) (by rfl) T.m_l_mixed T.F_l_mixed.kp T.b_l_mixed .nil pass0 (pa_cons (pe_op op_add (pe_op op_mul (pe_ix (Rd.ixLK rfl) (pv 0) pe_int (fun _ _ => rfl)) pe_int) (pe_callB call_len_seq (by rfl) T.n_len PySem.boot_len (pa_cons (pv 2) pa_nil))) (pa_cons (pe_ix (Rd.ixLK rfl) (pv 0) pe_int (fun _ _ => rfl)) (pa_cons (pv 1) pa_nil)))))) pss_nil)
      (pss_cons (ps_set (i := 3) sc_l_draw.nd rfl (Or.inl rfl) (pe_ix (Rd.ixLK rfl) (pv 2) (pe_ix (Rd.ixLK rfl) (pv 0) pe_int (fun _ _ => rfl)) (fun _ _ => rfl)))
      (pss_cons (ps_asg (pe_op op_add (pe_ix (Rd.ixLK rfl) (pv 0) pe_int (fun _ _ => rfl)) pe_int) (pg_sub (pv 0) pe_int set_list))
      (pss_cons (ps_if (PW.pt (pw_and (pt_cmpR op_lt (pe_ix (Rd.ixLK rfl) (pv 0) pe_int (fun _ _ => rfl)) pe_int (nomark _)) (pw_and1 (pt_cmpR op_ge (pv 3) (pe_op op_pow pe_int pe_int) (nomark _))))) (pss_one (ps_asg (pv 3) (pg_sub (pv 0) pe_int set_list))) pss_nil)
      (pss_cons (ps_if (pt_cmpR op_lt (pe_ix (Rd.ixLK rfl) (pv 0) pe_int (fun _ _ => rfl)) pe_int (nomark _)) (pss_cons (ps_set (i := 4) sc_l_draw.nd rfl (Or.inl rfl) (pe_call (ok_l_mixed T) (hr.mono (by decide)) (by rfl) T.m_l_mixed T.F_l_mixed.kp T.b_l_mixed .nil pass0 (pa_cons (pv 3) (pa_cons (pe_ix (Rd.ixLK rfl) (pv 0) pe_int (fun _ _ => rfl)) (pa_cons (pv 1) pa_nil))))) (pss_one (ps_set (i := 5) sc_l_draw.nd rfl (Or.inl rfl) pe_int))) (pss_cons (ps_set (i := 4) sc_l_draw.nd rfl (Or.inl rfl) (pe_op op_mod (pe_callTy call_int1 (by rfl) T.n_int (by decide +kernel) (pa_cons (pe_ix (Rd.ixLK rfl) (pv 0) pe_int (fun _ _ => rfl)) pa_nil)) (pv 1))) (pss_cons (ps_asg (pe_op op_fdivW (pe_ix (Rd.ixLK rfl) (pv 0) pe_int (fun _ _ => rfl)) (pv 1)) (pg_sub (pv 0) pe_int set_list)) (pss_one (ps_set (i := 5) sc_l_draw.nd rfl (Or.inl rfl) pe_int))))) (pss_cons (ps_if (PW.pt (pw_or (pt_cmpR op_ge (pe_ix (Rd.ixLK rfl) (pv 0) pe_int (fun _ _ => rfl)) (pv 5) (nomark _)) (pw_or1 (pt_cmpR op_eq (pe_ix (Rd.ixLK rfl) (pv 0) pe_int (fun _ _ => rfl)) pe_int (nomark _))))) (pss_cons (ps_asg (pe_op op_add (pe_ix (Rd.ixLK rfl) (pv 0) pe_int (fun _ _ => rfl)) pe_int) (pg_sub (pv 0) pe_int set_list)) (pss_cons (ps_asg pe_int (pg_sub (pv 0) pe_int set_list)) (pss_one (ps_asg (pe_un un_neg pe_int) (pg_sub (pv 0) pe_int set_list))))) pss_nil) (pss_one (ps_ret (pv 4))))))))))), ?_⟩
    try dsimp only [L2.cxOf, L2.Cx.nox, L2.Cx.wish]
    with_reducible refine Rd.seq (Rd.asg (Rd.op (Rd.var (by walk_at "vr") (Rd.c (Rd.ixL (by walk_at "hpl") (by walk_at "vr") (Rd.name (Rd.seq (Rd.asg (Rd.op (Rd.op (Rd.var (by walk_at "vr") ?_)))))))))))
    with_reducible refine Rd.c (Rd.ixL (by walk_at "hpl") (by walk_at "vr") (Rd.c (Rd.i0 (Rd.sub (Rd.var (by walk_at "vr") (Rd.c (Rd.setL (by walk_at "hp") (by walk_at "ixn") (Rd.seq (Rd.ifS (Rd.test (Rd.op ?_)))))))))))
    with_reducible refine Rd.op (Rd.var (by walk_at "vr") (Rd.c (Rd.ixL (by walk_at "hpl") (by walk_at "vr") (Rd.cB (Rd.cons (Rd.var (by walk_at "vr") (Rd.nil (⟨_, _, rfl, (by walk_at "hpq"), (Rd.i0 (Rd.bl ?_))⟩))))))))
    refine Rd.ite (fun h0 => ?_) (fun h0 => ?_)
    · try simp only [decide_eq_true_eq, Bool.not_eq_true', decide_eq_false_iff_not, Bool.not_eq_true, Bool.not_eq_eq_eq_not, Bool.not_true, Bool.not_false] at h0
      with_reducible refine Rd.ret (Rd.call (Rd.cons (Rd.op (Rd.op (Rd.op (Rd.var (by walk_at "vr") (Rd.c (Rd.ixL (by walk_at "hpl") (by walk_at "vr") (Rd.c ?_)))))))))
      refine Rd.iC (Or.inr (by decide)) ?_
      with_reducible refine Rd.cB (Rd.cons (Rd.var (by walk_at "vr") (Rd.nil (⟨_, _, rfl, (by walk_at "hpq"), (Rd.i0 (Rd.cons (Rd.op (Rd.var (by walk_at "vr") (Rd.c (Rd.ixL (by walk_at "hpl") (by walk_at "vr") (Rd.cons ?_)))))))⟩))))
      with_reducible refine Rd.var (by walk_at "vr") (Rd.nil ?_)
      refine ⟨_, _, _, rfl, (by walk_at "sc"), (by walk_at "sc"), fun d1 d1a d1b => ?_⟩
      (repeat rw [L2.upd_upd])
      first
        | exact k _ _ (by assumption) (by assumption) (.put hl hne i0)
        | exact k _ _ (by assumption) (by assumption) (.put hl hne (by omega))
    · try simp only [decide_eq_true_eq, Bool.not_eq_true', decide_eq_false_iff_not, Bool.not_eq_true, Bool.not_eq_eq_eq_not, Bool.not_true, Bool.not_false, Int.not_lt, Int.not_le, Decidable.not_not] at h0
      with_reducible refine Rd.next (Rd.seq (Rd.asg (Rd.op (Rd.var (by walk_at "vr") (Rd.op (Rd.var (by walk_at "vr") (Rd.c (Rd.ixL (by walk_at "hpl") (by walk_at "vr") ?_))))))))
      obtain ⟨z, hz⟩ := atI_map i0 (by simpa using h0)
      have z1 := Int.emod_nonneg z (show m ≠ 0 by omega)
      have z2 := Int.emod_lt_of_pos z m1
      refine Rd.ixL (by walk_at "hpl") hz ?_
      with_reducible refine Rd.name (Rd.seq (Rd.asg (Rd.op (Rd.op (Rd.var (by walk_at "vr") (Rd.c (Rd.ixL (by walk_at "hpl") (by walk_at "vr") (Rd.c (Rd.i0 (Rd.sub (Rd.var (by walk_at "vr") ?_)))))))))))
      with_reducible refine Rd.c (Rd.setL (by walk_at "hp") (by walk_at "ixn") (Rd.seq (Rd.ifS (Rd.and (Rd.test (Rd.op (Rd.op (Rd.var (by walk_at "vr") (Rd.c (Rd.ixL (by walk_at "hpl") (by walk_at "vr") (Rd.c ?_)))))))))))
      with_reducible refine Rd.i0 (Rd.bl ?_)
      refine Rd.ite (fun h1 => ?_) (fun h1 => ?_)
      · try simp only [decide_eq_true_eq, Bool.not_eq_true', decide_eq_false_iff_not, Bool.not_eq_true, Bool.not_eq_eq_eq_not, Bool.not_true, Bool.not_false] at h1
        with_reducible refine Rd.test (Rd.op (Rd.var (by walk_at "vr") (Rd.op (Rd.c (Rd.c (Rd.iC (by walk_at "scp") (Rd.i0 (Rd.bl ?_))))))))
        refine Rd.ite (fun h2 => ?_) (fun h2 => ?_)
        · try simp only [decide_eq_true_eq, Bool.not_eq_true', decide_eq_false_iff_not, Bool.not_eq_true, Bool.not_eq_eq_eq_not, Bool.not_true, Bool.not_false] at h2
          with_reducible refine Rd.asg (Rd.var (by walk_at "vr") (Rd.sub (Rd.var (by walk_at "vr") (Rd.c (Rd.setL (by walk_at "hp") (by walk_at "ixn") (Rd.seq (Rd.ifS (Rd.test (Rd.op (Rd.op (Rd.var (by walk_at "vr") ?_)))))))))))
          with_reducible refine Rd.c (Rd.ixL (by walk_at "hpl") (by walk_at "vr") (Rd.c (Rd.i0 (Rd.bl ?_))))
          refine Rd.ite (fun h3 => ?_) (fun h3 => ?_)
          · try simp only [decide_eq_true_eq, Bool.not_eq_true', decide_eq_false_iff_not, Bool.not_eq_true, Bool.not_eq_eq_eq_not, Bool.not_true, Bool.not_false] at h3
            with_reducible refine Rd.seq (Rd.asg (Rd.call (Rd.cons (Rd.var (by walk_at "vr") (Rd.cons (Rd.op (Rd.var (by walk_at "vr") (Rd.c (Rd.ixL (by walk_at "hpl") (by walk_at "vr") (Rd.cons (Rd.var (by walk_at "vr") ?_)))))))))))
            with_reducible refine Rd.nil ?_
            refine ⟨_, _, _, rfl, (by walk_at "sc"), (by walk_at "sc"), fun d2 d2a d2b => ?_⟩
            with_reducible refine Rd.name (Rd.asg (Rd.c (Rd.name (Rd.seq (Rd.ifS (Rd.or (Rd.test (Rd.op (Rd.op (Rd.var (by walk_at "vr") (Rd.c ?_)))))))))))
            with_reducible refine Rd.ixL (by walk_at "hpl") (by walk_at "vr") (Rd.var (by walk_at "vr") (Rd.i0 (Rd.bl ?_)))
            refine Rd.ite (fun h4 => ?_) (fun h4 => ?_)
            · try simp only [decide_eq_true_eq, Bool.not_eq_true', decide_eq_false_iff_not, Bool.not_eq_true, Bool.not_eq_eq_eq_not, Bool.not_true, Bool.not_false] at h4
              with_reducible refine Rd.iteT rfl (Rd.seq (Rd.asg (Rd.op (Rd.op (Rd.var (by walk_at "vr") (Rd.c (Rd.ixL (by walk_at "hpl") (by walk_at "vr") (Rd.c (Rd.i0 (Rd.sub (Rd.var (by walk_at "vr") ?_)))))))))))
              with_reducible refine Rd.c (Rd.setL (by walk_at "hp") (by walk_at "ixn") (Rd.seq (Rd.asg (Rd.c (Rd.sub (Rd.var (by walk_at "vr") (Rd.c (Rd.setL (by walk_at "hp") (by walk_at "ixn") (Rd.asg (Rd.un (Rd.c ?_)))))))))))
              with_reducible refine Rd.iU (Rd.sub (Rd.var (by walk_at "vr") (Rd.c (Rd.setL (by walk_at "hp") (by walk_at "ixn") (Rd.ret (Rd.var (by walk_at "vr") ?_))))))
              (repeat rw [L2.upd_upd])
              first
                | exact k _ _ (by assumption) (by assumption) (.put hl hne i0)
                | exact k _ _ (by assumption) (by assumption) (.put hl hne (by omega))
            · try simp only [decide_eq_true_eq, Bool.not_eq_true', decide_eq_false_iff_not, Bool.not_eq_true, Bool.not_eq_eq_eq_not, Bool.not_true, Bool.not_false, Int.not_lt, Int.not_le, Decidable.not_not] at h4
              with_reducible refine Rd.test (Rd.op (Rd.op (Rd.var (by walk_at "vr") (Rd.c (Rd.ixL (by walk_at "hpl") (by walk_at "vr") (Rd.c (Rd.eqS (by walk_at "vr") (Rd.bl ?_))))))))
              refine Rd.ite (fun h5 => ?_) (fun h5 => ?_)
              · try simp only [decide_eq_true_eq, Bool.not_eq_true', decide_eq_false_iff_not, Bool.not_eq_true, Bool.not_eq_eq_eq_not, Bool.not_true, Bool.not_false] at h5
                with_reducible refine Rd.seq (Rd.asg (Rd.op (Rd.op (Rd.var (by walk_at "vr") (Rd.c (Rd.ixL (by walk_at "hpl") (by walk_at "vr") (Rd.c (Rd.i0 (Rd.sub (Rd.var (by walk_at "vr") (Rd.c ?_)))))))))))
                with_reducible refine Rd.setL (by walk_at "hp") (by walk_at "ixn") (Rd.seq (Rd.asg (Rd.c (Rd.sub (Rd.var (by walk_at "vr") (Rd.c (Rd.setL (by walk_at "hp") (by walk_at "ixn") (Rd.asg (Rd.un (Rd.c (Rd.iU ?_)))))))))))
                with_reducible refine Rd.sub (Rd.var (by walk_at "vr") (Rd.c (Rd.setL (by walk_at "hp") (by walk_at "ixn") (Rd.ret (Rd.var (by walk_at "vr") ?_)))))
                (repeat rw [L2.upd_upd])
                first
                  | exact k _ _ (by assumption) (by assumption) (.put hl hne i0)
                  | exact k _ _ (by assumption) (by assumption) (.put hl hne (by omega))
              · try simp only [decide_eq_true_eq, Bool.not_eq_true', decide_eq_false_iff_not, Bool.not_eq_true, Bool.not_eq_eq_eq_not, Bool.not_true, Bool.not_false, Int.not_lt, Int.not_le, Decidable.not_not] at h5
                with_reducible refine Rd.next (Rd.ret (Rd.var (by walk_at "vr") ?_))
                (repeat rw [L2.upd_upd])
                first
                  | exact k _ _ (by assumption) (by assumption) (.put hl hne i0)
                  | exact k _ _ (by assumption) (by assumption) (.put hl hne (by omega))
          · try simp only [decide_eq_true_eq, Bool.not_eq_true', decide_eq_false_iff_not, Bool.not_eq_true, Bool.not_eq_eq_eq_not, Bool.not_true, Bool.not_false, Int.not_lt, Int.not_le, Decidable.not_not] at h3
            with_reducible refine Rd.seq (Rd.asg (Rd.op (Rd.cB (Rd.cons (Rd.op (Rd.var (by walk_at "vr") (Rd.c (Rd.ixL (by walk_at "hpl") (by walk_at "vr") (Rd.nil ((.inl ⟨_, rfl, (Rd.var (by walk_at "vr") ?_)⟩)))))))))))
            with_reducible refine Rd.iC (by walk_at "sc") (Rd.name (Rd.seq (Rd.asg (Rd.op (Rd.op (Rd.var (by walk_at "vr") (Rd.c (Rd.ixL (by walk_at "hpl") (by walk_at "vr") (Rd.var (by walk_at "vr") (Rd.iC (by walk_at "scd") (Rd.sub ?_)))))))))))
            with_reducible refine Rd.var (by walk_at "vr") (Rd.c (Rd.setL (by walk_at "hp") (by walk_at "ixn") (Rd.asg (Rd.c (Rd.name (Rd.seq (Rd.ifS (Rd.or (Rd.test (Rd.op (Rd.op ?_)))))))))))
            with_reducible refine Rd.var (by walk_at "vr") (Rd.c (Rd.ixL (by walk_at "hpl") (by walk_at "vr") (Rd.var (by walk_at "vr") (Rd.i0 (Rd.bl ?_)))))
            refine Rd.ite (fun h4 => ?_) (fun h4 => ?_)
            · try simp only [decide_eq_true_eq, Bool.not_eq_true', decide_eq_false_iff_not, Bool.not_eq_true, Bool.not_eq_eq_eq_not, Bool.not_true, Bool.not_false] at h4
              with_reducible refine Rd.iteT rfl (Rd.seq (Rd.asg (Rd.op (Rd.op (Rd.var (by walk_at "vr") (Rd.c (Rd.ixL (by walk_at "hpl") (by walk_at "vr") (Rd.c (Rd.i0 (Rd.sub (Rd.var (by walk_at "vr") ?_)))))))))))
              with_reducible refine Rd.c (Rd.setL (by walk_at "hp") (by walk_at "ixn") (Rd.seq (Rd.asg (Rd.c (Rd.sub (Rd.var (by walk_at "vr") (Rd.c (Rd.setL (by walk_at "hp") (by walk_at "ixn") (Rd.asg (Rd.un (Rd.c ?_)))))))))))
              with_reducible refine Rd.iU (Rd.sub (Rd.var (by walk_at "vr") (Rd.c (Rd.setL (by walk_at "hp") (by walk_at "ixn") (Rd.ret (Rd.var (by walk_at "vr") ?_))))))
              (repeat rw [L2.upd_upd])
              first
                | exact k _ _ (by assumption) (by assumption) (.put hl hne i0)
                | exact k _ _ (by assumption) (by assumption) (.put hl hne (by omega))
            · try simp only [decide_eq_true_eq, Bool.not_eq_true', decide_eq_false_iff_not, Bool.not_eq_true, Bool.not_eq_eq_eq_not, Bool.not_true, Bool.not_false, Int.not_lt, Int.not_le, Decidable.not_not] at h4
              with_reducible refine Rd.test (Rd.op (Rd.op (Rd.var (by walk_at "vr") (Rd.c (Rd.ixL (by walk_at "hpl") (by walk_at "vr") (Rd.c (Rd.eqS (by walk_at "vr") (Rd.bl ?_))))))))
              refine Rd.ite (fun h5 => ?_) (fun h5 => ?_)
              · try simp only [decide_eq_true_eq, Bool.not_eq_true', decide_eq_false_iff_not, Bool.not_eq_true, Bool.not_eq_eq_eq_not, Bool.not_true, Bool.not_false] at h5
                with_reducible refine Rd.seq (Rd.asg (Rd.op (Rd.op (Rd.var (by walk_at "vr") (Rd.c (Rd.ixL (by walk_at "hpl") (by walk_at "vr") (Rd.c (Rd.i0 (Rd.sub (Rd.var (by walk_at "vr") (Rd.c ?_)))))))))))
                with_reducible refine Rd.setL (by walk_at "hp") (by walk_at "ixn") (Rd.seq (Rd.asg (Rd.c (Rd.sub (Rd.var (by walk_at "vr") (Rd.c (Rd.setL (by walk_at "hp") (by walk_at "ixn") (Rd.asg (Rd.un (Rd.c (Rd.iU ?_)))))))))))
                with_reducible refine Rd.sub (Rd.var (by walk_at "vr") (Rd.c (Rd.setL (by walk_at "hp") (by walk_at "ixn") (Rd.ret (Rd.var (by walk_at "vr") ?_)))))
                (repeat rw [L2.upd_upd])
                first
                  | exact k _ _ (by assumption) (by assumption) (.put hl hne i0)
                  | exact k _ _ (by assumption) (by assumption) (.put hl hne (by omega))
              · try simp only [decide_eq_true_eq, Bool.not_eq_true', decide_eq_false_iff_not, Bool.not_eq_true, Bool.not_eq_eq_eq_not, Bool.not_true, Bool.not_false, Int.not_lt, Int.not_le, Decidable.not_not] at h5
                with_reducible refine Rd.next (Rd.ret (Rd.var (by walk_at "vr") ?_))
                (repeat rw [L2.upd_upd])
                first
                  | exact k _ _ (by assumption) (by assumption) (.put hl hne i0)
                  | exact k _ _ (by assumption) (by assumption) (.put hl hne (by omega))
        · try simp only [decide_eq_true_eq, Bool.not_eq_true', decide_eq_false_iff_not, Bool.not_eq_true, Bool.not_eq_eq_eq_not, Bool.not_true, Bool.not_false, Int.not_lt, Int.not_le, Decidable.not_not] at h2
          with_reducible refine Rd.next (Rd.seq (Rd.ifS (Rd.test (Rd.op (Rd.op (Rd.var (by walk_at "vr") (Rd.c (Rd.ixL (by walk_at "hpl") (by walk_at "vr") (Rd.c (Rd.i0 (Rd.bl ?_)))))))))))
          refine Rd.ite (fun h3 => ?_) (fun h3 => ?_)
          · try simp only [decide_eq_true_eq, Bool.not_eq_true', decide_eq_false_iff_not, Bool.not_eq_true, Bool.not_eq_eq_eq_not, Bool.not_true, Bool.not_false] at h3
            with_reducible refine Rd.seq (Rd.asg (Rd.call (Rd.cons (Rd.var (by walk_at "vr") (Rd.cons (Rd.op (Rd.var (by walk_at "vr") (Rd.c (Rd.ixL (by walk_at "hpl") (by walk_at "vr") (Rd.cons (Rd.var (by walk_at "vr") ?_)))))))))))
            with_reducible refine Rd.nil ?_
            refine ⟨_, _, _, rfl, (by walk_at "sc"), (by walk_at "sc"), fun d3 d3a d3b => ?_⟩
            with_reducible refine Rd.name (Rd.asg (Rd.c (Rd.name (Rd.seq (Rd.ifS (Rd.or (Rd.test (Rd.op (Rd.op (Rd.var (by walk_at "vr") (Rd.c ?_)))))))))))
            with_reducible refine Rd.ixL (by walk_at "hpl") (by walk_at "vr") (Rd.var (by walk_at "vr") (Rd.i0 (Rd.bl ?_)))
            refine Rd.ite (fun h4 => ?_) (fun h4 => ?_)
            · try simp only [decide_eq_true_eq, Bool.not_eq_true', decide_eq_false_iff_not, Bool.not_eq_true, Bool.not_eq_eq_eq_not, Bool.not_true, Bool.not_false] at h4
              with_reducible refine Rd.iteT rfl (Rd.seq (Rd.asg (Rd.op (Rd.op (Rd.var (by walk_at "vr") (Rd.c (Rd.ixL (by walk_at "hpl") (by walk_at "vr") (Rd.c (Rd.i0 (Rd.sub (Rd.var (by walk_at "vr") ?_)))))))))))
              with_reducible refine Rd.c (Rd.setL (by walk_at "hp") (by walk_at "ixn") (Rd.seq (Rd.asg (Rd.c (Rd.sub (Rd.var (by walk_at "vr") (Rd.c (Rd.setL (by walk_at "hp") (by walk_at "ixn") (Rd.asg (Rd.un (Rd.c ?_)))))))))))
              with_reducible refine Rd.iU (Rd.sub (Rd.var (by walk_at "vr") (Rd.c (Rd.setL (by walk_at "hp") (by walk_at "ixn") (Rd.ret (Rd.var (by walk_at "vr") ?_))))))
              (repeat rw [L2.upd_upd])
              first
                | exact k _ _ (by assumption) (by assumption) (.put hl hne i0)
                | exact k _ _ (by assumption) (by assumption) (.put hl hne (by omega))
            · try simp only [decide_eq_true_eq, Bool.not_eq_true', decide_eq_false_iff_not, Bool.not_eq_true, Bool.not_eq_eq_eq_not, Bool.not_true, Bool.not_false, Int.not_lt, Int.not_le, Decidable.not_not] at h4
              with_reducible refine Rd.test (Rd.op (Rd.op (Rd.var (by walk_at "vr") (Rd.c (Rd.ixL (by walk_at "hpl") (by walk_at "vr") (Rd.c (Rd.eqS (by walk_at "vr") (Rd.bl ?_))))))))
              refine Rd.ite (fun h5 => ?_) (fun h5 => ?_)
              · try simp only [decide_eq_true_eq, Bool.not_eq_true', decide_eq_false_iff_not, Bool.not_eq_true, Bool.not_eq_eq_eq_not, Bool.not_true, Bool.not_false] at h5
                with_reducible refine Rd.seq (Rd.asg (Rd.op (Rd.op (Rd.var (by walk_at "vr") (Rd.c (Rd.ixL (by walk_at "hpl") (by walk_at "vr") (Rd.c (Rd.i0 (Rd.sub (Rd.var (by walk_at "vr") (Rd.c ?_)))))))))))
                with_reducible refine Rd.setL (by walk_at "hp") (by walk_at "ixn") (Rd.seq (Rd.asg (Rd.c (Rd.sub (Rd.var (by walk_at "vr") (Rd.c (Rd.setL (by walk_at "hp") (by walk_at "ixn") (Rd.asg (Rd.un (Rd.c (Rd.iU ?_)))))))))))
                with_reducible refine Rd.sub (Rd.var (by walk_at "vr") (Rd.c (Rd.setL (by walk_at "hp") (by walk_at "ixn") (Rd.ret (Rd.var (by walk_at "vr") ?_)))))
                (repeat rw [L2.upd_upd])
                first
                  | exact k _ _ (by assumption) (by assumption) (.put hl hne i0)
                  | exact k _ _ (by assumption) (by assumption) (.put hl hne (by omega))
              · try simp only [decide_eq_true_eq, Bool.not_eq_true', decide_eq_false_iff_not, Bool.not_eq_true, Bool.not_eq_eq_eq_not, Bool.not_true, Bool.not_false, Int.not_lt, Int.not_le, Decidable.not_not] at h5
                with_reducible refine Rd.next (Rd.ret (Rd.var (by walk_at "vr") ?_))
                (repeat rw [L2.upd_upd])
                first
                  | exact k _ _ (by assumption) (by assumption) (.put hl hne i0)
                  | exact k _ _ (by assumption) (by assumption) (.put hl hne (by omega))
          · try simp only [decide_eq_true_eq, Bool.not_eq_true', decide_eq_false_iff_not, Bool.not_eq_true, Bool.not_eq_eq_eq_not, Bool.not_true, Bool.not_false, Int.not_lt, Int.not_le, Decidable.not_not] at h3
            with_reducible refine Rd.seq (Rd.asg (Rd.op (Rd.cB (Rd.cons (Rd.op (Rd.var (by walk_at "vr") (Rd.c (Rd.ixL (by walk_at "hpl") (by walk_at "vr") (Rd.nil ((.inl ⟨_, rfl, (Rd.var (by walk_at "vr") ?_)⟩)))))))))))
            with_reducible refine Rd.iC (by walk_at "sc") (Rd.name (Rd.seq (Rd.asg (Rd.op (Rd.op (Rd.var (by walk_at "vr") (Rd.c (Rd.ixL (by walk_at "hpl") (by walk_at "vr") (Rd.var (by walk_at "vr") (Rd.iC (by walk_at "scd") (Rd.sub ?_)))))))))))
            with_reducible refine Rd.var (by walk_at "vr") (Rd.c (Rd.setL (by walk_at "hp") (by walk_at "ixn") (Rd.asg (Rd.c (Rd.name (Rd.seq (Rd.ifS (Rd.or (Rd.test (Rd.op (Rd.op ?_)))))))))))
            with_reducible refine Rd.var (by walk_at "vr") (Rd.c (Rd.ixL (by walk_at "hpl") (by walk_at "vr") (Rd.var (by walk_at "vr") (Rd.i0 (Rd.bl ?_)))))
            refine Rd.ite (fun h4 => ?_) (fun h4 => ?_)
            · try simp only [decide_eq_true_eq, Bool.not_eq_true', decide_eq_false_iff_not, Bool.not_eq_true, Bool.not_eq_eq_eq_not, Bool.not_true, Bool.not_false] at h4
              with_reducible refine Rd.iteT rfl (Rd.seq (Rd.asg (Rd.op (Rd.op (Rd.var (by walk_at "vr") (Rd.c (Rd.ixL (by walk_at "hpl") (by walk_at "vr") (Rd.c (Rd.i0 (Rd.sub (Rd.var (by walk_at "vr") ?_)))))))))))
              with_reducible refine Rd.c (Rd.setL (by walk_at "hp") (by walk_at "ixn") (Rd.seq (Rd.asg (Rd.c (Rd.sub (Rd.var (by walk_at "vr") (Rd.c (Rd.setL (by walk_at "hp") (by walk_at "ixn") (Rd.asg (Rd.un (Rd.c ?_)))))))))))
              with_reducible refine Rd.iU (Rd.sub (Rd.var (by walk_at "vr") (Rd.c (Rd.setL (by walk_at "hp") (by walk_at "ixn") (Rd.ret (Rd.var (by walk_at "vr") ?_))))))
              (repeat rw [L2.upd_upd])
              first
                | exact k _ _ (by assumption) (by assumption) (.put hl hne i0)
                | exact k _ _ (by assumption) (by assumption) (.put hl hne (by omega))
            · try simp only [decide_eq_true_eq, Bool.not_eq_true', decide_eq_false_iff_not, Bool.not_eq_true, Bool.not_eq_eq_eq_not, Bool.not_true, Bool.not_false, Int.not_lt, Int.not_le, Decidable.not_not] at h4
              with_reducible refine Rd.test (Rd.op (Rd.op (Rd.var (by walk_at "vr") (Rd.c (Rd.ixL (by walk_at "hpl") (by walk_at "vr") (Rd.c (Rd.eqS (by walk_at "vr") (Rd.bl ?_))))))))
              refine Rd.ite (fun h5 => ?_) (fun h5 => ?_)
              · try simp only [decide_eq_true_eq, Bool.not_eq_true', decide_eq_false_iff_not, Bool.not_eq_true, Bool.not_eq_eq_eq_not, Bool.not_true, Bool.not_false] at h5
                with_reducible refine Rd.seq (Rd.asg (Rd.op (Rd.op (Rd.var (by walk_at "vr") (Rd.c (Rd.ixL (by walk_at "hpl") (by walk_at "vr") (Rd.c (Rd.i0 (Rd.sub (Rd.var (by walk_at "vr") (Rd.c ?_)))))))))))
                with_reducible refine Rd.setL (by walk_at "hp") (by walk_at "ixn") (Rd.seq (Rd.asg (Rd.c (Rd.sub (Rd.var (by walk_at "vr") (Rd.c (Rd.setL (by walk_at "hp") (by walk_at "ixn") (Rd.asg (Rd.un (Rd.c (Rd.iU ?_)))))))))))
                with_reducible refine Rd.sub (Rd.var (by walk_at "vr") (Rd.c (Rd.setL (by walk_at "hp") (by walk_at "ixn") (Rd.ret (Rd.var (by walk_at "vr") ?_)))))
                (repeat rw [L2.upd_upd])
                first
                  | exact k _ _ (by assumption) (by assumption) (.put hl hne i0)
                  | exact k _ _ (by assumption) (by assumption) (.put hl hne (by omega))
              · try simp only [decide_eq_true_eq, Bool.not_eq_true', decide_eq_false_iff_not, Bool.not_eq_true, Bool.not_eq_eq_eq_not, Bool.not_true, Bool.not_false, Int.not_lt, Int.not_le, Decidable.not_not] at h5
                with_reducible refine Rd.next (Rd.ret (Rd.var (by walk_at "vr") ?_))
                (repeat rw [L2.upd_upd])
                first
                  | exact k _ _ (by assumption) (by assumption) (.put hl hne i0)
                  | exact k _ _ (by assumption) (by assumption) (.put hl hne (by omega))
      · try simp only [decide_eq_true_eq, Bool.not_eq_true', decide_eq_false_iff_not, Bool.not_eq_true, Bool.not_eq_eq_eq_not, Bool.not_true, Bool.not_false, Int.not_lt, Int.not_le, Decidable.not_not] at h1
        with_reducible refine Rd.iteF rfl (Rd.next (Rd.seq (Rd.ifS (Rd.test (Rd.op (Rd.op (Rd.var (by walk_at "vr") (Rd.c (Rd.ixL (by walk_at "hpl") (by walk_at "vr") (Rd.c (Rd.i0 ?_)))))))))))
        with_reducible refine Rd.bl ?_
        refine Rd.ite (fun h3 => ?_) (fun h3 => ?_)
        · try simp only [decide_eq_true_eq, Bool.not_eq_true', decide_eq_false_iff_not, Bool.not_eq_true, Bool.not_eq_eq_eq_not, Bool.not_true, Bool.not_false] at h3
          with_reducible refine Rd.seq (Rd.asg (Rd.call (Rd.cons (Rd.var (by walk_at "vr") (Rd.cons (Rd.op (Rd.var (by walk_at "vr") (Rd.c (Rd.ixL (by walk_at "hpl") (by walk_at "vr") (Rd.cons (Rd.var (by walk_at "vr") ?_)))))))))))
          with_reducible refine Rd.nil ?_
          refine ⟨_, _, _, rfl, (by walk_at "sc"), (by walk_at "sc"), fun d4 d4a d4b => ?_⟩
          with_reducible refine Rd.name (Rd.asg (Rd.c (Rd.name (Rd.seq (Rd.ifS (Rd.or (Rd.test (Rd.op (Rd.op (Rd.var (by walk_at "vr") (Rd.c ?_)))))))))))
          with_reducible refine Rd.ixL (by walk_at "hpl") (by walk_at "vr") (Rd.var (by walk_at "vr") (Rd.i0 (Rd.bl ?_)))
          refine Rd.ite (fun h4 => ?_) (fun h4 => ?_)
          · try simp only [decide_eq_true_eq, Bool.not_eq_true', decide_eq_false_iff_not, Bool.not_eq_true, Bool.not_eq_eq_eq_not, Bool.not_true, Bool.not_false] at h4
            with_reducible refine Rd.iteT rfl (Rd.seq (Rd.asg (Rd.op (Rd.op (Rd.var (by walk_at "vr") (Rd.c (Rd.ixL (by walk_at "hpl") (by walk_at "vr") (Rd.c (Rd.i0 (Rd.sub (Rd.var (by walk_at "vr") ?_)))))))))))
            with_reducible refine Rd.c (Rd.setL (by walk_at "hp") (by walk_at "ixn") (Rd.seq (Rd.asg (Rd.c (Rd.sub (Rd.var (by walk_at "vr") (Rd.c (Rd.setL (by walk_at "hp") (by walk_at "ixn") (Rd.asg (Rd.un (Rd.c ?_)))))))))))
            with_reducible refine Rd.iU (Rd.sub (Rd.var (by walk_at "vr") (Rd.c (Rd.setL (by walk_at "hp") (by walk_at "ixn") (Rd.ret (Rd.var (by walk_at "vr") ?_))))))
            (repeat rw [L2.upd_upd])
            first
              | exact k _ _ (by assumption) (by assumption) (.put hl hne i0)
              | exact k _ _ (by assumption) (by assumption) (.put hl hne (by omega))
          · try simp only [decide_eq_true_eq, Bool.not_eq_true', decide_eq_false_iff_not, Bool.not_eq_true, Bool.not_eq_eq_eq_not, Bool.not_true, Bool.not_false, Int.not_lt, Int.not_le, Decidable.not_not] at h4
            with_reducible refine Rd.test (Rd.op (Rd.op (Rd.var (by walk_at "vr") (Rd.c (Rd.ixL (by walk_at "hpl") (by walk_at "vr") (Rd.c (Rd.eqS (by walk_at "vr") (Rd.bl ?_))))))))
            refine Rd.ite (fun h5 => ?_) (fun h5 => ?_)
            · try simp only [decide_eq_true_eq, Bool.not_eq_true', decide_eq_false_iff_not, Bool.not_eq_true, Bool.not_eq_eq_eq_not, Bool.not_true, Bool.not_false] at h5
              with_reducible refine Rd.seq (Rd.asg (Rd.op (Rd.op (Rd.var (by walk_at "vr") (Rd.c (Rd.ixL (by walk_at "hpl") (by walk_at "vr") (Rd.c (Rd.i0 (Rd.sub (Rd.var (by walk_at "vr") (Rd.c ?_)))))))))))
              with_reducible refine Rd.setL (by walk_at "hp") (by walk_at "ixn") (Rd.seq (Rd.asg (Rd.c (Rd.sub (Rd.var (by walk_at "vr") (Rd.c (Rd.setL (by walk_at "hp") (by walk_at "ixn") (Rd.asg (Rd.un (Rd.c (Rd.iU ?_)))))))))))
              with_reducible refine Rd.sub (Rd.var (by walk_at "vr") (Rd.c (Rd.setL (by walk_at "hp") (by walk_at "ixn") (Rd.ret (Rd.var (by walk_at "vr") ?_)))))
              (repeat rw [L2.upd_upd])
              first
                | exact k _ _ (by assumption) (by assumption) (.put hl hne i0)
                | exact k _ _ (by assumption) (by assumption) (.put hl hne (by omega))
            · try simp only [decide_eq_true_eq, Bool.not_eq_true', decide_eq_false_iff_not, Bool.not_eq_true, Bool.not_eq_eq_eq_not, Bool.not_true, Bool.not_false, Int.not_lt, Int.not_le, Decidable.not_not] at h5
              with_reducible refine Rd.next (Rd.ret (Rd.var (by walk_at "vr") ?_))
              (repeat rw [L2.upd_upd])
              first
                | exact k _ _ (by assumption) (by assumption) (.put hl hne i0)
                | exact k _ _ (by assumption) (by assumption) (.put hl hne (by omega))
        · try simp only [decide_eq_true_eq, Bool.not_eq_true', decide_eq_false_iff_not, Bool.not_eq_true, Bool.not_eq_eq_eq_not, Bool.not_true, Bool.not_false, Int.not_lt, Int.not_le, Decidable.not_not] at h3
          with_reducible refine Rd.seq (Rd.asg (Rd.op (Rd.cB (Rd.cons (Rd.op (Rd.var (by walk_at "vr") (Rd.c (Rd.ixL (by walk_at "hpl") (by walk_at "vr") (Rd.nil ((.inl ⟨_, rfl, (Rd.var (by walk_at "vr") ?_)⟩)))))))))))
          with_reducible refine Rd.iC (by walk_at "sc") (Rd.name (Rd.seq (Rd.asg (Rd.op (Rd.op (Rd.var (by walk_at "vr") (Rd.c (Rd.ixL (by walk_at "hpl") (by walk_at "vr") (Rd.var (by walk_at "vr") (Rd.iC (by walk_at "scd") (Rd.sub ?_)))))))))))
          with_reducible refine Rd.var (by walk_at "vr") (Rd.c (Rd.setL (by walk_at "hp") (by walk_at "ixn") (Rd.asg (Rd.c (Rd.name (Rd.seq (Rd.ifS (Rd.or (Rd.test (Rd.op (Rd.op ?_)))))))))))
          with_reducible refine Rd.var (by walk_at "vr") (Rd.c (Rd.ixL (by walk_at "hpl") (by walk_at "vr") (Rd.var (by walk_at "vr") (Rd.i0 (Rd.bl ?_)))))
          refine Rd.ite (fun h4 => ?_) (fun h4 => ?_)
          · try simp only [decide_eq_true_eq, Bool.not_eq_true', decide_eq_false_iff_not, Bool.not_eq_true, Bool.not_eq_eq_eq_not, Bool.not_true, Bool.not_false] at h4
            with_reducible refine Rd.iteT rfl (Rd.seq (Rd.asg (Rd.op (Rd.op (Rd.var (by walk_at "vr") (Rd.c (Rd.ixL (by walk_at "hpl") (by walk_at "vr") (Rd.c (Rd.i0 (Rd.sub (Rd.var (by walk_at "vr") ?_)))))))))))
            with_reducible refine Rd.c (Rd.setL (by walk_at "hp") (by walk_at "ixn") (Rd.seq (Rd.asg (Rd.c (Rd.sub (Rd.var (by walk_at "vr") (Rd.c (Rd.setL (by walk_at "hp") (by walk_at "ixn") (Rd.asg (Rd.un (Rd.c ?_)))))))))))
            with_reducible refine Rd.iU (Rd.sub (Rd.var (by walk_at "vr") (Rd.c (Rd.setL (by walk_at "hp") (by walk_at "ixn") (Rd.ret (Rd.var (by walk_at "vr") ?_))))))
            (repeat rw [L2.upd_upd])
            first
              | exact k _ _ (by assumption) (by assumption) (.put hl hne i0)
              | exact k _ _ (by assumption) (by assumption) (.put hl hne (by omega))
          · try simp only [decide_eq_true_eq, Bool.not_eq_true', decide_eq_false_iff_not, Bool.not_eq_true, Bool.not_eq_eq_eq_not, Bool.not_true, Bool.not_false, Int.not_lt, Int.not_le, Decidable.not_not] at h4
            with_reducible refine Rd.test (Rd.op (Rd.op (Rd.var (by walk_at "vr") (Rd.c (Rd.ixL (by walk_at "hpl") (by walk_at "vr") (Rd.c (Rd.eqS (by walk_at "vr") (Rd.bl ?_))))))))
            refine Rd.ite (fun h5 => ?_) (fun h5 => ?_)
            · try simp only [decide_eq_true_eq, Bool.not_eq_true', decide_eq_false_iff_not, Bool.not_eq_true, Bool.not_eq_eq_eq_not, Bool.not_true, Bool.not_false] at h5
              with_reducible refine Rd.seq (Rd.asg (Rd.op (Rd.op (Rd.var (by walk_at "vr") (Rd.c (Rd.ixL (by walk_at "hpl") (by walk_at "vr") (Rd.c (Rd.i0 (Rd.sub (Rd.var (by walk_at "vr") (Rd.c ?_)))))))))))
              with_reducible refine Rd.setL (by walk_at "hp") (by walk_at "ixn") (Rd.seq (Rd.asg (Rd.c (Rd.sub (Rd.var (by walk_at "vr") (Rd.c (Rd.setL (by walk_at "hp") (by walk_at "ixn") (Rd.asg (Rd.un (Rd.c (Rd.iU ?_)))))))))))
              with_reducible refine Rd.sub (Rd.var (by walk_at "vr") (Rd.c (Rd.setL (by walk_at "hp") (by walk_at "ixn") (Rd.ret (Rd.var (by walk_at "vr") ?_)))))
              (repeat rw [L2.upd_upd])
              first
                | exact k _ _ (by assumption) (by assumption) (.put hl hne i0)
                | exact k _ _ (by assumption) (by assumption) (.put hl hne (by omega))
            · try simp only [decide_eq_true_eq, Bool.not_eq_true', decide_eq_false_iff_not, Bool.not_eq_true, Bool.not_eq_eq_eq_not, Bool.not_true, Bool.not_false, Int.not_lt, Int.not_le, Decidable.not_not] at h5
              with_reducible refine Rd.next (Rd.ret (Rd.var (by walk_at "vr") ?_))
              (repeat rw [L2.upd_upd])
              first
                | exact k _ _ (by assumption) (by assumption) (.put hl hne i0)
                | exact k _ _ (by assumption) (by assumption) (.put hl hne (by omega))
/-! _law_wide -/
theorem sc_l_wide : FnScope ["_law_pool_here", "_law_most", "_law_kind", "_law_told"] ["_law_pool_here", "_law_most"] (defScope s_l_wide) := ⟨rfl, rfl, rfl, by decide +kernel, rfl, by decide +kernel, by decide +kernel⟩
abbrev sp_l_wide (K : PySem.W.Frag) (A : Adr) : Sp := fun vs H Q _ => ∃ (a : Addr) (o : HO) (w : Int), vs = [.ref a, .int w] ∧ H a = some o ∧ PoolO H a o ∧ 0 ≤ w ∧ w < 2 ^ 180 ∧ ∀ (d : Int) (o' : HO), 0 ≤ d → d ≤ w → PoolO (upd H a o') a o' → Q (.int d) (upd H a o')
theorem ok_l_wide (T : Txt w K mg A) : FnOk P w K mg base CX0 3 A.f_l_wide A.d_l_wide ["_law_pool_here", "_law_most"] (sp_l_wide K A) := by
  refine T.F_l_wide.ok sc_l_wide (fun vs H Q E h => ?_) (fun cdv Ar outer s H vs Q E hr h => ?_)
  · obtain ⟨a, o, w, rfl, ha, ho, w0, w1, k⟩ := h
    rfl
  · obtain ⟨a, o, w, rfl, ha, ho, w0, w1, k⟩ := h
    have hu := hu_of hr
    have t_q_PART_NAMES := T.q_PART_NAMES
    have t_q_PART_WORDS_slot := T.q_PART_WORDS_slot
    have t_d_PART_WORDS_slot := T.d_PART_WORDS_slot
    have t_q_PART_WORDS_empty := T.q_PART_WORDS_empty
    have t_d_PART_WORDS_empty := T.d_PART_WORDS_empty
    have t_q_PART_WORDS_when := T.q_PART_WORDS_when
    have t_d_PART_WORDS_when := T.d_PART_WORDS_when
    have t_q_MEASURES := T.q_MEASURES
    have t_q_SIGNS := T.q_SIGNS
    have t_q_PLAIN_FULLS := T.q_PLAIN_FULLS
    have t_i_Form := T.i_Form
    have t_kt_Form_Form := T.kt_Form_Form
    have t_kt_int_Form := T.kt_int_Form
    have t_i_SizeSet := T.i_SizeSet
    have t_kt_SizeSet_SizeSet := T.kt_SizeSet_SizeSet
    have t_kt_tuple_SizeSet := T.kt_tuple_SizeSet
    have t_nf_Form_Form := T.nf_Form_Form
    have t_nf_int_Form := T.nf_int_Form
    have t_nf_SizeSet_SizeSet := T.nf_SizeSet_SizeSet
    have t_nf_tuple_SizeSet := T.nf_tuple_SizeSet
    have t_xm_NoSize_NoSize := T.xm_NoSize_NoSize
    have t_xm_NoRing_NoSize := T.xm_NoRing_NoSize
    have t_xm_NoRing_NoRing := T.xm_NoRing_NoRing
    have t_xm_NotDecided_NoSize := T.xm_NotDecided_NoSize
    have t_xm_NotDecided_NoRing := T.xm_NotDecided_NoRing
    have t_xm_NotDecided_NotDecided := T.xm_NotDecided_NotDecided
    have t_xm_NoLag_NoSize := T.xm_NoLag_NoSize
    have t_xm_NoLag_NoRing := T.xm_NoLag_NoRing
    have t_xm_NoLag_NotDecided := T.xm_NoLag_NotDecided
    have t_xm_NoLag_NoLag := T.xm_NoLag_NoLag
    have t_xm_TooLong_TooLong := T.xm_TooLong_TooLong
    have t_k_Form := T.k_Form
    have t_k_Scheme := T.k_Scheme
    have t_k_Belief := T.k_Belief
    have t_k_SizeSet := T.k_SizeSet
    refine ⟨_, (pss_cons (ps_set (i := 2) sc_l_wide.nd rfl (Or.inl rfl) (pe_call (ok_l_draw T) (hr.mono (by decide)) (by rfl) T.m_l_draw T.F_l_draw.kp T.b_l_draw .nil pass0 (pa_cons (pv 0) (pa_cons pe_int pa_nil))))
      (pss_cons (ps_if (pt_cmpR op_eq (pv 2) pe_int (nomark _)) (pss_one (ps_ret (pe_op op_mod (pe_callTy call_int1 (by rfl) T.n_int (by decide +kernel) (pa_cons (pe_call (ok_l_draw T) (hr.mono (by decide)) (by rfl) T.m_l_draw T.F_l_draw.kp T.b_l_draw .nil pass0 (pa_cons (pv 0) (pa_cons pe_int pa_nil))) pa_nil)) (pe_op op_add (pv 1) pe_int)))) pss_nil)
      (pss_cons (ps_if (pt_cmpR op_eq (pv 2) pe_int (nomark _)) (pss_one (ps_ret (pe_op op_mod (pe_callTy call_int1 (by rfl) T.n_int (by decide +kernel) (pa_cons (pe_call (ok_l_draw T) (hr.mono (by decide)) (by rfl) T.m_l_draw T.F_l_draw.kp T.b_l_draw .nil pass0 (pa_cons (pv 0) (pa_cons pe_int pa_nil))) pa_nil)) (pe_op op_add (pv 1) pe_int)))) pss_nil)
      (pss_cons (ps_set (i := 3) sc_l_wide.nd rfl (Or.inl rfl) (pe_op op_add (pe_op op_add (pe_op op_mul (pe_call (ok_l_draw T) (hr.mono (by decide)) (by rfl) T.m_l_draw T.F_l_draw.kp T.b_l_draw .nil pass0 (pa_cons (pv 0) (pa_cons (pe_op op_pow pe_int pe_int) pa_nil))) (pe_op op_pow pe_int pe_int)) (pe_op op_mul (pe_call (ok_l_draw T) (hr.mono (by decide)) (by rfl) T.m_l_draw T.F_l_draw.kp T.b_l_draw .nil pass0 (pa_cons (pv 0) (pa_cons (pe_op op_pow pe_int pe_int) pa_nil))) (pe_op op_pow pe_int pe_int))) (pe_call (ok_l_draw T) (hr.mono (by decide)) (by rfl) T.m_l_draw T.F_l_draw.kp T.b_l_draw .nil pass0 (pa_cons (pv 0) (pa_cons (pe_op op_pow pe_int pe_int) pa_nil)))))
      (pss_cons (ps_if (pt_cmpR op_eq (pv 2) pe_int (nomark _)) (pss_one (ps_set (i := 3) sc_l_wide.nd rfl (Or.inl rfl) (pe_op op_add (pe_op op_mul (pv 3) (pe_op op_pow pe_int pe_int)) (pe_call (ok_l_draw T) (hr.mono (by decide)) (by rfl) T.m_l_draw T.F_l_draw.kp T.b_l_draw .nil pass0 (pa_cons (pv 0) (pa_cons (pe_op op_pow pe_int pe_int) pa_nil)))))) pss_nil)
      (pss_one (ps_ret (pe_op op_mod (pe_callTy call_int1 (by rfl) T.n_int (by decide +kernel) (pa_cons (pv 3) pa_nil)) (pe_op op_add (pv 1) pe_int))))))))), ?_⟩
    try dsimp only [L2.cxOf, L2.Cx.nox, L2.Cx.wish]
    with_reducible refine Rd.seq (Rd.asg (Rd.call (Rd.cons (Rd.var (by walk_at "vr") (Rd.cons (Rd.c (Rd.nil ?_)))))))
    refine ⟨_, _, _, rfl, (by walk_at "hp"), (by walk_at "pool"), (by walk_at "sc"), (by walk_at "sc"), fun d1 o1 d1a d1b s1 => ?_⟩
    with_reducible refine Rd.name (Rd.seq (Rd.ifS (Rd.test (Rd.op (Rd.var (by walk_at "vr") (Rd.c (Rd.eqS (by walk_at "vr") (Rd.bl ?_))))))))
    refine Rd.ite (fun h0 => ?_) (fun h0 => ?_)
    · try simp only [decide_eq_true_eq, Bool.not_eq_true', decide_eq_false_iff_not, Bool.not_eq_true, Bool.not_eq_eq_eq_not, Bool.not_true, Bool.not_false] at h0
      with_reducible refine Rd.ret (Rd.op (Rd.cB (Rd.cons (Rd.call (Rd.cons (Rd.var (by walk_at "vr") (Rd.cons (Rd.c (Rd.nil ?_)))))))))
      refine ⟨_, _, _, rfl, (by walk_at "hp"), (by walk_at "pool"), (by walk_at "sc"), (by walk_at "sc"), fun d2 o2 d2a d2b s2 => ?_⟩
      with_reducible refine Rd.nil ((.inl ⟨_, rfl, (Rd.op (Rd.var (by walk_at "vr") (Rd.c (Rd.i0 (Rd.iC (by walk_at "sc") ?_)))))⟩))
      (repeat rw [L2.upd_upd] at *)
      exact k _ _ (Int.emod_nonneg _ (by omega)) (Int.le_of_lt_add_one (Int.emod_lt_of_pos _ (by omega))) (by assumption)
    · try simp only [decide_eq_true_eq, Bool.not_eq_true', decide_eq_false_iff_not, Bool.not_eq_true, Bool.not_eq_eq_eq_not, Bool.not_true, Bool.not_false, Int.not_lt, Int.not_le, Decidable.not_not] at h0
      with_reducible refine Rd.next (Rd.seq (Rd.ifS (Rd.test (Rd.op (Rd.var (by walk_at "vr") (Rd.c (Rd.eqS (by walk_at "vr") (Rd.bl ?_))))))))
      refine Rd.ite (fun h1 => ?_) (fun h1 => ?_)
      · try simp only [decide_eq_true_eq, Bool.not_eq_true', decide_eq_false_iff_not, Bool.not_eq_true, Bool.not_eq_eq_eq_not, Bool.not_true, Bool.not_false] at h1
        with_reducible refine Rd.ret (Rd.op (Rd.cB (Rd.cons (Rd.call (Rd.cons (Rd.var (by walk_at "vr") (Rd.cons (Rd.c (Rd.nil ?_)))))))))
        refine ⟨_, _, _, rfl, (by walk_at "hp"), (by walk_at "pool"), (by walk_at "sc"), (by walk_at "sc"), fun d3 o3 d3a d3b s3 => ?_⟩
        with_reducible refine Rd.nil ((.inl ⟨_, rfl, (Rd.op (Rd.var (by walk_at "vr") (Rd.c (Rd.i0 (Rd.iC (by walk_at "sc") ?_)))))⟩))
        (repeat rw [L2.upd_upd] at *)
        exact k _ _ (Int.emod_nonneg _ (by omega)) (Int.le_of_lt_add_one (Int.emod_lt_of_pos _ (by omega))) (by assumption)
      · try simp only [decide_eq_true_eq, Bool.not_eq_true', decide_eq_false_iff_not, Bool.not_eq_true, Bool.not_eq_eq_eq_not, Bool.not_true, Bool.not_false, Int.not_lt, Int.not_le, Decidable.not_not] at h1
        with_reducible refine Rd.next (Rd.seq (Rd.asg (Rd.op (Rd.op (Rd.op (Rd.call (Rd.cons (Rd.var (by walk_at "vr") (Rd.cons (Rd.op (Rd.c ?_)))))))))))
        with_reducible refine Rd.c (Rd.iC (by walk_at "scp") (Rd.nil ?_))
        refine ⟨_, _, _, rfl, (by walk_at "hp"), (by walk_at "pool"), (by walk_at "sc"), (by walk_at "sc"), fun d4 o4 d4a d4b s4 => ?_⟩
        with_reducible refine Rd.op (Rd.c (Rd.c (Rd.iC (by walk_at "scp") ?_)))
        refine Rd.iC (Or.inr (by decide)) ?_
        with_reducible refine Rd.op (Rd.call (Rd.cons (Rd.var (by walk_at "vr") (Rd.cons (Rd.op (Rd.c (Rd.c (Rd.iC (by walk_at "scp") (Rd.nil ?_)))))))))
        refine ⟨_, _, _, rfl, (by walk_at "hp"), (by walk_at "pool"), (by walk_at "sc"), (by walk_at "sc"), fun d5 o5 d5a d5b s5 => ?_⟩
        with_reducible refine Rd.op (Rd.c (Rd.c (Rd.iC (by walk_at "scp") ?_)))
        refine Rd.iC (Or.inr (by decide)) ?_
        with_reducible refine Rd.i0 (Rd.call (Rd.cons (Rd.var (by walk_at "vr") (Rd.cons (Rd.op (Rd.c (Rd.c (Rd.iC (by walk_at "scp") (Rd.nil ?_)))))))))
        refine ⟨_, _, _, rfl, (by walk_at "hp"), (by walk_at "pool"), (by walk_at "sc"), (by walk_at "sc"), fun d6 o6 d6a d6b s6 => ?_⟩
        with_reducible refine Rd.i0 (Rd.name (Rd.seq (Rd.ifS (Rd.test (Rd.op (Rd.var (by walk_at "vr") (Rd.c (Rd.eqS (by walk_at "vr") (Rd.bl ?_)))))))))
        refine Rd.ite (fun h2 => ?_) (fun h2 => ?_)
        · try simp only [decide_eq_true_eq, Bool.not_eq_true', decide_eq_false_iff_not, Bool.not_eq_true, Bool.not_eq_eq_eq_not, Bool.not_true, Bool.not_false] at h2
          with_reducible refine Rd.asg (Rd.op (Rd.op (Rd.var (by walk_at "vr") (Rd.op (Rd.c (Rd.c (Rd.iC (by walk_at "scp") ?_)))))))
          refine Rd.iC (Or.inr (by decide)) ?_
          with_reducible refine Rd.call (Rd.cons (Rd.var (by walk_at "vr") (Rd.cons (Rd.op (Rd.c (Rd.c (Rd.iC (by walk_at "scp") (Rd.nil ?_))))))))
          refine ⟨_, _, _, rfl, (by walk_at "hp"), (by walk_at "pool"), (by walk_at "sc"), (by walk_at "sc"), fun d7 o7 d7a d7b s7 => ?_⟩
          with_reducible refine Rd.i0 (Rd.name (Rd.ret (Rd.op (Rd.cB (Rd.cons (Rd.var (by walk_at "vr") (Rd.nil ((.inl ⟨_, rfl, (Rd.op (Rd.var (by walk_at "vr") (Rd.c ?_)))⟩)))))))))
          with_reducible refine Rd.i0 (Rd.iC (by walk_at "sc") ?_)
          (repeat rw [L2.upd_upd] at *)
          exact k _ _ (Int.emod_nonneg _ (by omega)) (Int.le_of_lt_add_one (Int.emod_lt_of_pos _ (by omega))) (by assumption)
        · try simp only [decide_eq_true_eq, Bool.not_eq_true', decide_eq_false_iff_not, Bool.not_eq_true, Bool.not_eq_eq_eq_not, Bool.not_true, Bool.not_false, Int.not_lt, Int.not_le, Decidable.not_not] at h2
          with_reducible refine Rd.next (Rd.ret (Rd.op (Rd.cB (Rd.cons (Rd.var (by walk_at "vr") (Rd.nil ((.inl ⟨_, rfl, (Rd.op (Rd.var (by walk_at "vr") (Rd.c (Rd.i0 ?_))))⟩))))))))
          with_reducible refine Rd.iC (by walk_at "sc") ?_
          (repeat rw [L2.upd_upd] at *)
          exact k _ _ (Int.emod_nonneg _ (by omega)) (Int.le_of_lt_add_one (Int.emod_lt_of_pos _ (by omega))) (by assumption)
/-! _law_made -/
theorem sc_l_made : FnScope ["_law_row", "_law_manner", "_law_turn", "_law_rule", "_law_bare", "_law_brim"] ["_law_row", "_law_manner"] (defScope s_l_made) := ⟨rfl, rfl, rfl, by decide +kernel, rfl, by decide +kernel, by decide +kernel⟩
theorem st_l_made {v0 v1 : V} : L2.start ["_law_row", "_law_manner", "_law_turn", "_law_rule", "_law_bare", "_law_brim"] [v0, v1] = [some v0, some v1, none, none, none, none] := rfl
abbrev sp_l_made (K : PySem.W.Frag) (A : Adr) : Sp := fun vs H Q _ => ∃ (v : V) (t : Pt), vs = [v, .str t.wen] ∧ IsRow H v t ∧ Wf t ∧ ∀ (p : Addr) (H' : Hp), Same H H' → H p = none → IsScheme A H' p t → Q (.ref p) H'
theorem ok_l_made (T : Txt w K mg A) : FnOk P w K mg base CX0 8 A.f_l_made A.d_l_made ["_law_row", "_law_manner"] (sp_l_made K A) := by
  refine T.F_l_made.ok sc_l_made (fun vs H Q E h => ?_) (fun cdv Ar outer s H vs Q E hr h => ?_)
  · obtain ⟨v, t, rfl, ⟨p, vt, vf, rfl, hp, ht, hf⟩, wf, k⟩ := h
    rfl
  · obtain ⟨v, t, rfl, ⟨p, vt, vf, rfl, hp, ht, hf⟩, wf, k⟩ := h
    have hu := hu_of hr
    have t_q_PART_NAMES := T.q_PART_NAMES
    have t_q_PART_WORDS_slot := T.q_PART_WORDS_slot
    have t_d_PART_WORDS_slot := T.d_PART_WORDS_slot
    have t_q_PART_WORDS_empty := T.q_PART_WORDS_empty
    have t_d_PART_WORDS_empty := T.d_PART_WORDS_empty
    have t_q_PART_WORDS_when := T.q_PART_WORDS_when
    have t_d_PART_WORDS_when := T.d_PART_WORDS_when
    have t_q_MEASURES := T.q_MEASURES
    have t_q_SIGNS := T.q_SIGNS
    have t_q_PLAIN_FULLS := T.q_PLAIN_FULLS
    have t_i_Form := T.i_Form
    have t_kt_Form_Form := T.kt_Form_Form
    have t_kt_int_Form := T.kt_int_Form
    have t_i_SizeSet := T.i_SizeSet
    have t_kt_SizeSet_SizeSet := T.kt_SizeSet_SizeSet
    have t_kt_tuple_SizeSet := T.kt_tuple_SizeSet
    have t_nf_Form_Form := T.nf_Form_Form
    have t_nf_int_Form := T.nf_int_Form
    have t_nf_SizeSet_SizeSet := T.nf_SizeSet_SizeSet
    have t_nf_tuple_SizeSet := T.nf_tuple_SizeSet
    have t_xm_NoSize_NoSize := T.xm_NoSize_NoSize
    have t_xm_NoRing_NoSize := T.xm_NoRing_NoSize
    have t_xm_NoRing_NoRing := T.xm_NoRing_NoRing
    have t_xm_NotDecided_NoSize := T.xm_NotDecided_NoSize
    have t_xm_NotDecided_NoRing := T.xm_NotDecided_NoRing
    have t_xm_NotDecided_NotDecided := T.xm_NotDecided_NotDecided
    have t_xm_NoLag_NoSize := T.xm_NoLag_NoSize
    have t_xm_NoLag_NoRing := T.xm_NoLag_NoRing
    have t_xm_NoLag_NotDecided := T.xm_NoLag_NotDecided
    have t_xm_NoLag_NoLag := T.xm_NoLag_NoLag
    have t_xm_TooLong_TooLong := T.xm_TooLong_TooLong
    have t_k_Form := T.k_Form
    have t_k_Scheme := T.k_Scheme
    have t_k_Belief := T.k_Belief
    have t_k_SizeSet := T.k_SizeSet
    rcases t with ⟨wr, sl, em, fl, wn⟩
    dsimp only at hp ht hf
    rcases wr with w | ⟨s, b⟩ <;> rcases fl with kk | ⟨kk, g, s2, b2⟩
    · have ht : vt = .int w := ht
      subst ht
      obtain ⟨pf, rfl, hpf⟩ := hf
      refine ⟨_, (pss_cons (ps_asg (pv 0) (pg_tup (by rfl) (pgs_cons (pg_name (i := 2) sc_l_made.nd rfl (Or.inl rfl)) (pgs_cons (pg_name (i := 3) sc_l_made.nd rfl (Or.inl rfl)) (pgs_cons (pg_name (i := 4) sc_l_made.nd rfl (Or.inl rfl)) (pgs_cons (pg_name (i := 5) sc_l_made.nd rfl (Or.inl rfl)) pgs_nil))))))
      (pss_cons (ps_if (pt_val (pe_callB (Rd.isi (K := K) rfl) (by rfl) T.n_isinstance (by decide +kernel) (pa_cons (pv 2) (pa_cons (pe_bltn (v := .ty "tuple") (u := .type "tuple") (by rfl) T.n_tuple (by decide +kernel) rfl) pa_nil)))) (pss_one ps_never) pss_nil)
      (pss_cons (ps_if (pt_cmpR op_eq (pe_callB call_len_seq (by rfl) T.n_len PySem.boot_len (pa_cons (pv 5) pa_nil)) pe_int (nomark _)) (pss_one ps_never) pss_nil)
      (pss_one (ps_ret (pe_makeK0 T.K_Scheme (ok_Schemeu__initu_ T) (hr.mono (by decide)) (by rfl) T.m_Scheme T.kb_Schemeu__initu_.choose_spec pass0 (pk_cons (pv 2) (pk_cons (pv 3) (pk_cons (pv 4) (pk_cons (pv 5) (pk_cons (pv 1) pk_nil))))))))))), ?_⟩
      try dsimp only [L2.cxOf, L2.Cx.nox, L2.Cx.wish]
      try rw [st_l_made]
      with_reducible refine Rd.seq (Rd.asg (Rd.var (by walk_at "vr") ?_))
      refine Rd.gtup (by walk_at "hpt") rfl ?_
      with_reducible refine Rd.gcons (Rd.name (Rd.gcons (Rd.name (Rd.gcons (Rd.name (Rd.gcons (Rd.name (Rd.gnil (Rd.seq (Rd.ifS (Rd.tb ?_)))))))))))
      with_reducible refine Rd.cB (Rd.cons (Rd.var (by walk_at "vr") (Rd.cons (Rd.c (Rd.nil ?_)))))
      refine ⟨_, _, _, _, _, rfl, (by walk_at "clsv"), (by walk_at "tyx"), (by walk_at "kit"), ?_⟩
      with_reducible refine Rd.bl (Rd.iteF (by walk_at "bF") (Rd.next (Rd.seq (Rd.ifS (Rd.test (Rd.op (Rd.cB (Rd.cons (Rd.var (by walk_at "vr") (Rd.nil (⟨_, _, rfl, (by walk_at "hpq"), ?_⟩)))))))))))
      with_reducible refine Rd.c (Rd.eqS (by walk_at "vr") (Rd.bl (Rd.iteF (by walk_at "bF") (Rd.next (Rd.ret (Rd.mkK (Rd.cons (Rd.var (by walk_at "vr") (Rd.cons (Rd.var (by walk_at "vr") (Rd.cons ?_)))))))))))
      with_reducible refine Rd.var (by walk_at "vr") (Rd.cons (Rd.var (by walk_at "vr") (Rd.cons (Rd.var (by walk_at "vr") (Rd.nil ?_)))))
      refine ⟨rfl, rfl, ?_⟩
      intro x1 dx1 nx1 ndx1 ne1
      refine ⟨_, _, _, _, (⟨.width w, sl, em, .plain kk, wn⟩ : Pt), rfl, L2.upd_same, rfl, ⟨_, rfl, (by walk_at "hp")⟩, wf, fun d1 H1 F1 nd1 a1 b1 => ⟨rfl, ?_⟩⟩
      exact k _ _ (by walk_at "frm") (by walk_at "nn") ⟨_, _, _, _, (by assumption), (by assumption), rfl, ⟨_, rfl, (by walk_at "hp")⟩⟩
    · have ht : vt = .int w := ht
      subst ht
      obtain ⟨pf, qf, rfl, hpf, hqf⟩ := hf
      refine ⟨_, (pss_cons (ps_asg (pv 0) (pg_tup (by rfl) (pgs_cons (pg_name (i := 2) sc_l_made.nd rfl (Or.inl rfl)) (pgs_cons (pg_name (i := 3) sc_l_made.nd rfl (Or.inl rfl)) (pgs_cons (pg_name (i := 4) sc_l_made.nd rfl (Or.inl rfl)) (pgs_cons (pg_name (i := 5) sc_l_made.nd rfl (Or.inl rfl)) pgs_nil))))))
      (pss_cons (ps_if (pt_val (pe_callB (Rd.isi (K := K) rfl) (by rfl) T.n_isinstance (by decide +kernel) (pa_cons (pv 2) (pa_cons (pe_bltn (v := .ty "tuple") (u := .type "tuple") (by rfl) T.n_tuple (by decide +kernel) rfl) pa_nil)))) (pss_one ps_never) pss_nil)
      (pss_cons (ps_if (pt_cmpR op_eq (pe_callB call_len_seq (by rfl) T.n_len PySem.boot_len (pa_cons (pv 5) pa_nil)) pe_int (nomark _)) (pss_one (ps_set (i := 5) sc_l_made.nd rfl (Or.inl rfl) (pe_tup (pa_cons (pe_ix (Rd.ixTK rfl) (pv 5) pe_int (fun _ _ => rfl)) (pa_cons (pe_ix (Rd.ixTK rfl) (pv 5) pe_int (fun _ _ => rfl)) (pa_cons (pe_make T.K_Form (ok_Formu__initu_ T) (hr.mono (by decide)) (by rfl) T.m_Form T.b_Formu__initu_ .nil pass0 (pa_cons (pe_ix (Rd.ixTK rfl) (pe_ix (Rd.ixTK rfl) (pv 5) pe_int (fun _ _ => rfl)) pe_int (fun _ _ => rfl)) (pa_cons (pe_ix (Rd.ixTK rfl) (pe_ix (Rd.ixTK rfl) (pv 5) pe_int (fun _ _ => rfl)) pe_int (fun _ _ => rfl)) pa_nil))) pa_nil)))))) pss_nil)
      (pss_one (ps_ret (pe_makeK0 T.K_Scheme (ok_Schemeu__initu_ T) (hr.mono (by decide)) (by rfl) T.m_Scheme T.kb_Schemeu__initu_.choose_spec pass0 (pk_cons (pv 2) (pk_cons (pv 3) (pk_cons (pv 4) (pk_cons (pv 5) (pk_cons (pv 1) pk_nil))))))))))), ?_⟩
      try dsimp only [L2.cxOf, L2.Cx.nox, L2.Cx.wish]
      try rw [st_l_made]
      with_reducible refine Rd.seq (Rd.asg (Rd.var (by walk_at "vr") ?_))
      refine Rd.gtup (by walk_at "hpt") rfl ?_
      with_reducible refine Rd.gcons (Rd.name (Rd.gcons (Rd.name (Rd.gcons (Rd.name (Rd.gcons (Rd.name (Rd.gnil (Rd.seq (Rd.ifS (Rd.tb ?_)))))))))))
      with_reducible refine Rd.cB (Rd.cons (Rd.var (by walk_at "vr") (Rd.cons (Rd.c (Rd.nil ?_)))))
      refine ⟨_, _, _, _, _, rfl, (by walk_at "clsv"), (by walk_at "tyx"), (by walk_at "kit"), ?_⟩
      with_reducible refine Rd.bl (Rd.iteF (by walk_at "bF") (Rd.next (Rd.seq (Rd.ifS (Rd.test (Rd.op (Rd.cB (Rd.cons (Rd.var (by walk_at "vr") (Rd.nil (⟨_, _, rfl, (by walk_at "hpq"), ?_⟩)))))))))))
      with_reducible refine Rd.c (Rd.eqS (by walk_at "vr") (Rd.bl (Rd.iteT (by walk_at "bT") (Rd.asg (Rd.tup (Rd.cons (Rd.op (Rd.var (by walk_at "vr") (Rd.c (Rd.ixT (by walk_at "hpt") (by walk_at "vr") (Rd.cons ?_)))))))))))
      with_reducible refine Rd.op (Rd.var (by walk_at "vr") (Rd.c (Rd.ixT (by walk_at "hpt") (by walk_at "vr") (Rd.cons (Rd.make (Rd.cons (Rd.op (Rd.op (Rd.var (by walk_at "vr") (Rd.c (Rd.ixT (by walk_at "hpt") (by walk_at "vr") ?_)))))))))))
      with_reducible refine Rd.c (Rd.ixT (by walk_at "hpt") (by walk_at "vr") (Rd.cons (Rd.op (Rd.op (Rd.var (by walk_at "vr") (Rd.c (Rd.ixT (by walk_at "hpt") (by walk_at "vr") (Rd.c (Rd.ixT (by walk_at "hpt") (by walk_at "vr") (Rd.nil ?_))))))))))
      intro x1 dx1 nx1 ndx1 ne1
      refine ⟨_, _, _, _, rfl, L2.upd_same, ?_⟩
      refine ⟨rfl, ?_⟩
      rw [L2.upd_upd]
      with_reducible refine Rd.nil (Rd.laid (by walk_at "ll") ?_)
      intro p0 np0
      with_reducible refine Rd.name ?_
      try dsimp only [Int.reduceToNat, List.set]
      with_reducible refine Rd.ret (Rd.mkK (Rd.cons (Rd.var (by walk_at "vr") (Rd.cons (Rd.var (by walk_at "vr") (Rd.cons (Rd.var (by walk_at "vr") (Rd.cons (Rd.var (by walk_at "vr") (Rd.cons (Rd.var (by walk_at "vr") ?_)))))))))))
      with_reducible refine Rd.nil ?_
      refine ⟨rfl, rfl, ?_⟩
      intro x2 dx2 nx2 ndx2 ne2
      refine ⟨_, _, _, _, (⟨.width w, sl, em, .lim kk g s2 b2, wn⟩ : Pt), rfl, L2.upd_same, rfl, ⟨_, _, _, rfl, (by walk_at "hp"), (by walk_at "hp")⟩, wf, fun d2 H2 F2 nd2 a2 b2 => ⟨rfl, ?_⟩⟩
      exact k _ _ (by walk_at "frm") (by walk_at "nn") ⟨_, _, _, _, (by assumption), (by assumption), rfl, ⟨_, _, _, rfl, (by walk_at "hp"), (by walk_at "hp")⟩⟩
    · obtain ⟨pt, rfl, hpt⟩ := ht
      obtain ⟨pf, rfl, hpf⟩ := hf
      refine ⟨_, (pss_cons (ps_asg (pv 0) (pg_tup (by rfl) (pgs_cons (pg_name (i := 2) sc_l_made.nd rfl (Or.inl rfl)) (pgs_cons (pg_name (i := 3) sc_l_made.nd rfl (Or.inl rfl)) (pgs_cons (pg_name (i := 4) sc_l_made.nd rfl (Or.inl rfl)) (pgs_cons (pg_name (i := 5) sc_l_made.nd rfl (Or.inl rfl)) pgs_nil))))))
      (pss_cons (ps_if (pt_val (pe_callB (Rd.isi (K := K) rfl) (by rfl) T.n_isinstance (by decide +kernel) (pa_cons (pv 2) (pa_cons (pe_bltn (v := .ty "tuple") (u := .type "tuple") (by rfl) T.n_tuple (by decide +kernel) rfl) pa_nil)))) (pss_one (ps_set (i := 2) sc_l_made.nd rfl (Or.inl rfl) (pe_make T.K_Form (ok_Formu__initu_ T) (hr.mono (by decide)) (by rfl) T.m_Form T.b_Formu__initu_ .nil pass0 (pa_cons (pe_ix (Rd.ixTK rfl) (pv 2) pe_int (fun _ _ => rfl)) (pa_cons (pe_ix (Rd.ixTK rfl) (pv 2) pe_int (fun _ _ => rfl)) pa_nil))))) pss_nil)
      (pss_cons (ps_if (pt_cmpR op_eq (pe_callB call_len_seq (by rfl) T.n_len PySem.boot_len (pa_cons (pv 5) pa_nil)) pe_int (nomark _)) (pss_one ps_never) pss_nil)
      (pss_one (ps_ret (pe_makeK0 T.K_Scheme (ok_Schemeu__initu_ T) (hr.mono (by decide)) (by rfl) T.m_Scheme T.kb_Schemeu__initu_.choose_spec pass0 (pk_cons (pv 2) (pk_cons (pv 3) (pk_cons (pv 4) (pk_cons (pv 5) (pk_cons (pv 1) pk_nil))))))))))), ?_⟩
      try dsimp only [L2.cxOf, L2.Cx.nox, L2.Cx.wish]
      try rw [st_l_made]
      with_reducible refine Rd.seq (Rd.asg (Rd.var (by walk_at "vr") ?_))
      refine Rd.gtup (by walk_at "hpt") rfl ?_
      with_reducible refine Rd.gcons (Rd.name (Rd.gcons (Rd.name (Rd.gcons (Rd.name (Rd.gcons (Rd.name (Rd.gnil (Rd.seq (Rd.ifS (Rd.tb ?_)))))))))))
      with_reducible refine Rd.cB (Rd.cons (Rd.var (by walk_at "vr") (Rd.cons (Rd.c (Rd.nil ?_)))))
      refine ⟨_, _, _, _, _, rfl, (by walk_at "clsv"), (by walk_at "tyx"), (by walk_at "kit"), ?_⟩
      with_reducible refine Rd.bl (Rd.iteT (by walk_at "bT") (Rd.asg (Rd.make (Rd.cons (Rd.op (Rd.var (by walk_at "vr") (Rd.c (Rd.ixT (by walk_at "hpt") (by walk_at "vr") (Rd.cons (Rd.op (Rd.var (by walk_at "vr") ?_)))))))))))
      with_reducible refine Rd.c (Rd.ixT (by walk_at "hpt") (by walk_at "vr") (Rd.nil ?_))
      intro x1 dx1 nx1 ndx1 ne1
      refine ⟨_, _, _, _, rfl, L2.upd_same, ?_⟩
      refine ⟨rfl, ?_⟩
      rw [L2.upd_upd]
      with_reducible refine Rd.name ?_
      try dsimp only [Int.reduceToNat, List.set]
      with_reducible refine Rd.seq (Rd.ifS (Rd.test (Rd.op (Rd.cB (Rd.cons (Rd.var (by walk_at "vr") (Rd.nil (⟨_, _, rfl, (by walk_at "hpq"), (Rd.c (Rd.eqS (by walk_at "vr") (Rd.bl ?_)))⟩))))))))
      with_reducible refine Rd.iteF (by walk_at "bF") (Rd.next (Rd.ret (Rd.mkK (Rd.cons (Rd.var (by walk_at "vr") (Rd.cons (Rd.var (by walk_at "vr") (Rd.cons (Rd.var (by walk_at "vr") (Rd.cons (Rd.var (by walk_at "vr") ?_)))))))))))
      with_reducible refine Rd.cons (Rd.var (by walk_at "vr") (Rd.nil ?_))
      refine ⟨rfl, rfl, ?_⟩
      intro x2 dx2 nx2 ndx2 ne2
      refine ⟨_, _, _, _, (⟨.form s b, sl, em, .plain kk, wn⟩ : Pt), rfl, L2.upd_same, ⟨_, _, rfl, (by walk_at "hp")⟩, ⟨_, rfl, (by walk_at "hp")⟩, wf, fun d2 H2 F2 nd2 a2 b2 => ⟨rfl, ?_⟩⟩
      exact k _ _ (by walk_at "frm") (by walk_at "nn") ⟨_, _, _, _, (by assumption), (by assumption), ⟨_, _, rfl, (by walk_at "hp")⟩, ⟨_, rfl, (by walk_at "hp")⟩⟩
    · obtain ⟨pt, rfl, hpt⟩ := ht
      obtain ⟨pf, qf, rfl, hpf, hqf⟩ := hf
      refine ⟨_, (pss_cons (ps_asg (pv 0) (pg_tup (by rfl) (pgs_cons (pg_name (i := 2) sc_l_made.nd rfl (Or.inl rfl)) (pgs_cons (pg_name (i := 3) sc_l_made.nd rfl (Or.inl rfl)) (pgs_cons (pg_name (i := 4) sc_l_made.nd rfl (Or.inl rfl)) (pgs_cons (pg_name (i := 5) sc_l_made.nd rfl (Or.inl rfl)) pgs_nil))))))
      (pss_cons (ps_if (pt_val (pe_callB (Rd.isi (K := K) rfl) (by rfl) T.n_isinstance (by decide +kernel) (pa_cons (pv 2) (pa_cons (pe_bltn (v := .ty "tuple") (u := .type "tuple") (by rfl) T.n_tuple (by decide +kernel) rfl) pa_nil)))) (pss_one (ps_set (i := 2) sc_l_made.nd rfl (Or.inl rfl) (pe_make T.K_Form (ok_Formu__initu_ T) (hr.mono (by decide)) (by rfl) T.m_Form T.b_Formu__initu_ .nil pass0 (pa_cons (pe_ix (Rd.ixTK rfl) (pv 2) pe_int (fun _ _ => rfl)) (pa_cons (pe_ix (Rd.ixTK rfl) (pv 2) pe_int (fun _ _ => rfl)) pa_nil))))) pss_nil)
      (pss_cons (ps_if (pt_cmpR op_eq (pe_callB call_len_seq (by rfl) T.n_len PySem.boot_len (pa_cons (pv 5) pa_nil)) pe_int (nomark _)) (pss_one (ps_set (i := 5) sc_l_made.nd rfl (Or.inl rfl) (pe_tup (pa_cons (pe_ix (Rd.ixTK rfl) (pv 5) pe_int (fun _ _ => rfl)) (pa_cons (pe_ix (Rd.ixTK rfl) (pv 5) pe_int (fun _ _ => rfl)) (pa_cons (pe_make T.K_Form (ok_Formu__initu_ T) (hr.mono (by decide)) (by rfl) T.m_Form T.b_Formu__initu_ .nil pass0 (pa_cons (pe_ix (Rd.ixTK rfl) (pe_ix (Rd.ixTK rfl) (pv 5) pe_int (fun _ _ => rfl)) pe_int (fun _ _ => rfl)) (pa_cons (pe_ix (Rd.ixTK rfl) (pe_ix (Rd.ixTK rfl) (pv 5) pe_int (fun _ _ => rfl)) pe_int (fun _ _ => rfl)) pa_nil))) pa_nil)))))) pss_nil)
      (pss_one (ps_ret (pe_makeK0 T.K_Scheme (ok_Schemeu__initu_ T) (hr.mono (by decide)) (by rfl) T.m_Scheme T.kb_Schemeu__initu_.choose_spec pass0 (pk_cons (pv 2) (pk_cons (pv 3) (pk_cons (pv 4) (pk_cons (pv 5) (pk_cons (pv 1) pk_nil))))))))))), ?_⟩
      try dsimp only [L2.cxOf, L2.Cx.nox, L2.Cx.wish]
      try rw [st_l_made]
      with_reducible refine Rd.seq (Rd.asg (Rd.var (by walk_at "vr") ?_))
      refine Rd.gtup (by walk_at "hpt") rfl ?_
      with_reducible refine Rd.gcons (Rd.name (Rd.gcons (Rd.name (Rd.gcons (Rd.name (Rd.gcons (Rd.name (Rd.gnil (Rd.seq (Rd.ifS (Rd.tb ?_)))))))))))
      with_reducible refine Rd.cB (Rd.cons (Rd.var (by walk_at "vr") (Rd.cons (Rd.c (Rd.nil ?_)))))
      refine ⟨_, _, _, _, _, rfl, (by walk_at "clsv"), (by walk_at "tyx"), (by walk_at "kit"), ?_⟩
      with_reducible refine Rd.bl (Rd.iteT (by walk_at "bT") (Rd.asg (Rd.make (Rd.cons (Rd.op (Rd.var (by walk_at "vr") (Rd.c (Rd.ixT (by walk_at "hpt") (by walk_at "vr") (Rd.cons (Rd.op (Rd.var (by walk_at "vr") ?_)))))))))))
      with_reducible refine Rd.c (Rd.ixT (by walk_at "hpt") (by walk_at "vr") (Rd.nil ?_))
      intro x1 dx1 nx1 ndx1 ne1
      refine ⟨_, _, _, _, rfl, L2.upd_same, ?_⟩
      refine ⟨rfl, ?_⟩
      rw [L2.upd_upd]
      with_reducible refine Rd.name ?_
      try dsimp only [Int.reduceToNat, List.set]
      with_reducible refine Rd.seq (Rd.ifS (Rd.test (Rd.op (Rd.cB (Rd.cons (Rd.var (by walk_at "vr") (Rd.nil (⟨_, _, rfl, (by walk_at "hpq"), (Rd.c (Rd.eqS (by walk_at "vr") (Rd.bl ?_)))⟩))))))))
      with_reducible refine Rd.iteT (by walk_at "bT") (Rd.asg (Rd.tup (Rd.cons (Rd.op (Rd.var (by walk_at "vr") (Rd.c (Rd.ixT (by walk_at "hpt") (by walk_at "vr") (Rd.cons (Rd.op (Rd.var (by walk_at "vr") (Rd.c ?_)))))))))))
      with_reducible refine Rd.ixT (by walk_at "hpt") (by walk_at "vr") (Rd.cons (Rd.make (Rd.cons (Rd.op (Rd.op (Rd.var (by walk_at "vr") (Rd.c (Rd.ixT (by walk_at "hpt") (by walk_at "vr") (Rd.c (Rd.ixT (by walk_at "hpt") (by walk_at "vr") (Rd.cons ?_)))))))))))
      with_reducible refine Rd.op (Rd.op (Rd.var (by walk_at "vr") (Rd.c (Rd.ixT (by walk_at "hpt") (by walk_at "vr") (Rd.c (Rd.ixT (by walk_at "hpt") (by walk_at "vr") (Rd.nil ?_)))))))
      intro x2 dx2 nx2 ndx2 ne2
      refine ⟨_, _, _, _, rfl, L2.upd_same, ?_⟩
      refine ⟨rfl, ?_⟩
      rw [L2.upd_upd]
      with_reducible refine Rd.nil (Rd.laid (by walk_at "ll") ?_)
      intro p0 np0
      with_reducible refine Rd.name ?_
      try dsimp only [Int.reduceToNat, List.set]
      with_reducible refine Rd.ret (Rd.mkK (Rd.cons (Rd.var (by walk_at "vr") (Rd.cons (Rd.var (by walk_at "vr") (Rd.cons (Rd.var (by walk_at "vr") (Rd.cons (Rd.var (by walk_at "vr") (Rd.cons (Rd.var (by walk_at "vr") ?_)))))))))))
      with_reducible refine Rd.nil ?_
      refine ⟨rfl, rfl, ?_⟩
      intro x3 dx3 nx3 ndx3 ne3
      refine ⟨_, _, _, _, (⟨.form s b, sl, em, .lim kk g s2 b2, wn⟩ : Pt), rfl, L2.upd_same, ⟨_, _, rfl, (by walk_at "hp")⟩, ⟨_, _, _, rfl, (by walk_at "hp"), (by walk_at "hp")⟩, wf, fun d3 H3 F3 nd3 a3 b3 => ⟨rfl, ?_⟩⟩
      exact k _ _ (by walk_at "frm") (by walk_at "nn") ⟨_, _, _, _, (by assumption), (by assumption), ⟨_, _, rfl, (by walk_at "hp")⟩, ⟨_, _, _, rfl, (by walk_at "hp"), (by walk_at "hp")⟩⟩
/-! _law_power -/
theorem sc_l_power : FnScope ["_law_many", "_law_found", "_law_k"] ["_law_many"] (defScope s_l_power) := ⟨rfl, rfl, rfl, by decide +kernel, rfl, by decide +kernel, by decide +kernel⟩
theorem st_l_power {v0 : V} : L2.start ["_law_many", "_law_found", "_law_k"] [v0] = [some v0, none, none] := rfl
abbrev sp_l_power (K : PySem.W.Frag) (A : Adr) : Sp := fun vs H Q _ => ∃ m : Int, vs = [.int m] ∧ 0 ≤ m ∧ m ≤ 100 ∧ Q (.int (2 ^ m.toNat)) H
theorem ok_l_power (T : Txt w K mg A) : FnOk P w K mg base CX0 1 A.f_l_power A.d_l_power ["_law_many"] (sp_l_power K A) := by
  refine T.F_l_power.ok sc_l_power (fun vs H Q E h => ?_) (fun cdv Ar outer s H vs Q E hr h => ?_)
  · obtain ⟨m, rfl, m1, m2, k⟩ := h
    rfl
  · obtain ⟨m, rfl, m1, m2, k⟩ := h
    have hu := hu_of hr
    have t_q_PART_NAMES := T.q_PART_NAMES
    have t_q_PART_WORDS_slot := T.q_PART_WORDS_slot
    have t_d_PART_WORDS_slot := T.d_PART_WORDS_slot
    have t_q_PART_WORDS_empty := T.q_PART_WORDS_empty
    have t_d_PART_WORDS_empty := T.d_PART_WORDS_empty
    have t_q_PART_WORDS_when := T.q_PART_WORDS_when
    have t_d_PART_WORDS_when := T.d_PART_WORDS_when
    have t_q_MEASURES := T.q_MEASURES
    have t_q_SIGNS := T.q_SIGNS
    have t_q_PLAIN_FULLS := T.q_PLAIN_FULLS
    have t_i_Form := T.i_Form
    have t_kt_Form_Form := T.kt_Form_Form
    have t_kt_int_Form := T.kt_int_Form
    have t_i_SizeSet := T.i_SizeSet
    have t_kt_SizeSet_SizeSet := T.kt_SizeSet_SizeSet
    have t_kt_tuple_SizeSet := T.kt_tuple_SizeSet
    have t_nf_Form_Form := T.nf_Form_Form
    have t_nf_int_Form := T.nf_int_Form
    have t_nf_SizeSet_SizeSet := T.nf_SizeSet_SizeSet
    have t_nf_tuple_SizeSet := T.nf_tuple_SizeSet
    have t_xm_NoSize_NoSize := T.xm_NoSize_NoSize
    have t_xm_NoRing_NoSize := T.xm_NoRing_NoSize
    have t_xm_NoRing_NoRing := T.xm_NoRing_NoRing
    have t_xm_NotDecided_NoSize := T.xm_NotDecided_NoSize
    have t_xm_NotDecided_NoRing := T.xm_NotDecided_NoRing
    have t_xm_NotDecided_NotDecided := T.xm_NotDecided_NotDecided
    have t_xm_NoLag_NoSize := T.xm_NoLag_NoSize
    have t_xm_NoLag_NoRing := T.xm_NoLag_NoRing
    have t_xm_NoLag_NotDecided := T.xm_NoLag_NotDecided
    have t_xm_NoLag_NoLag := T.xm_NoLag_NoLag
    have t_xm_TooLong_TooLong := T.xm_TooLong_TooLong
    have t_k_Form := T.k_Form
    have t_k_Scheme := T.k_Scheme
    have t_k_Belief := T.k_Belief
    have t_k_SizeSet := T.k_SizeSet
    refine ⟨_, (pss_cons (ps_set (i := 1) sc_l_power.nd rfl (Or.inl rfl) pe_int)
      (pss_cons (ps_for PassesOwn.never rfl (pi_range1 (by rfl) T.n_range (pa_cons (pv 0) pa_nil)) (pg_name (i := 2) sc_l_power.nd rfl (Or.inl rfl)) (pss_one (ps_set (i := 1) sc_l_power.nd rfl (Or.inl rfl) (pe_op op_mulW (pv 1) pe_int))))
      (pss_one (ps_ret (pv 1))))), ?_⟩
    try dsimp only [L2.cxOf, L2.Cx.nox, L2.Cx.wish]
    try rw [st_l_power]
    with_reducible refine Rd.seq (Rd.asg (Rd.c (Rd.name ?_)))
    try dsimp only [Int.reduceToNat, List.set]
    with_reducible refine Rd.seq (Rd.fr (Rd.rng1 (Rd.cons (Rd.var (by walk_at "vr") (Rd.nil (⟨_, rfl, (by walk_at "sc"), (by walk_at "sc"), ?_⟩))))))
    refine for_range (lo := 0) (fun (i : Nat) (σ : L2.St) (H' : Hp) => ∃ vt : Option V, σ = [some (.int m), some (.int (2 ^ i)), vt] ∧ H' = H) ⟨_, rfl, rfl⟩ (fun i σ H0 hi ⟨vt, es, eh⟩ => ?_) (fun σ H0 ⟨vt, es, eh⟩ => ?_)
    · subst es eh
      have pw := pow_le3 (i := i) (by omega)
      have pp := pow_pos3 i
      with_reducible refine Rd.name (Rd.asg (Rd.op (Rd.var (by walk_at "vr") (Rd.c (Rd.iC (by walk_at "scm") (Rd.name ?_))))))
      try dsimp only [Int.reduceToNat, List.set]
      exact ⟨_, by rw [Int.pow_succ], rfl⟩
    · subst es eh
      with_reducible refine Rd.ret (Rd.var (by walk_at "vr") ?_)
      exact k
/-! _law_setting -/
theorem sc_l_setting : FnScope ["_law_pool_here", "_law_many", "_law_brim", "_law_bare", "_law_n", "_law_more", "_law_kind", "_law_modulus", "_law_rule", "_law_wide_here"] ["_law_pool_here"] (defScope s_l_setting) := ⟨rfl, rfl, rfl, by decide +kernel, rfl, by decide +kernel, by decide +kernel⟩
theorem st_l_setting {v0 : V} : L2.start ["_law_pool_here", "_law_many", "_law_brim", "_law_bare", "_law_n", "_law_more", "_law_kind", "_law_modulus", "_law_rule", "_law_wide_here"] [v0] = [some v0, none, none, none, none, none, none, none, none, none] := rfl
abbrev sp_l_setting (K : PySem.W.Frag) (A : Adr) : Sp := fun vs H Q _ => ∃ (a : Addr) (o : HO), vs = [.ref a] ∧ H a = some o ∧ PoolO H a o ∧ ∀ (q pr : Addr) (vt vf : V) (t : Pt) (n M : Int) (o' : HO) (H' : Hp), Frm a H H' → H' a = some o' → PoolO H' a o' → H' q = some (.tup [.ref pr, .int n, .int M]) → H' pr = some (.tup [vt, .str t.slot, .str t.empty, vf]) → M = modV t.wrap n → IsTurn H' vt t.wrap → IsFill H' vf t.full → Wf t → 1 ≤ n → n ≤ 1000000000000000000000000000000 → 1 ≤ M → M ≤ 5000000000000000000000000000000 → Good t n → (∀ m, 1 ≤ m → 1 ≤ modV t.wrap m) → Q (.ref q) H'
theorem ok_l_setting (T : Txt w K mg A) : FnOk P w K mg base CX0 4 A.f_l_setting A.d_l_setting ["_law_pool_here"] (sp_l_setting K A) := by
  refine T.F_l_setting.ok sc_l_setting (fun vs H Q E h => ?_) (fun cdv Ar outer s H vs Q E hr h => ?_)
  · obtain ⟨a, o, rfl, ha, ho, k⟩ := h
    rfl
  · obtain ⟨a, o, rfl, ha, ho, k⟩ := h
    have hu := hu_of hr
    have t_q_PART_NAMES := T.q_PART_NAMES
    have t_q_PART_WORDS_slot := T.q_PART_WORDS_slot
    have t_d_PART_WORDS_slot := T.d_PART_WORDS_slot
    have t_q_PART_WORDS_empty := T.q_PART_WORDS_empty
    have t_d_PART_WORDS_empty := T.d_PART_WORDS_empty
    have t_q_PART_WORDS_when := T.q_PART_WORDS_when
    have t_d_PART_WORDS_when := T.d_PART_WORDS_when
    have t_q_MEASURES := T.q_MEASURES
    have t_q_SIGNS := T.q_SIGNS
    have t_q_PLAIN_FULLS := T.q_PLAIN_FULLS
    have t_i_Form := T.i_Form
    have t_kt_Form_Form := T.kt_Form_Form
    have t_kt_int_Form := T.kt_int_Form
    have t_i_SizeSet := T.i_SizeSet
    have t_kt_SizeSet_SizeSet := T.kt_SizeSet_SizeSet
    have t_kt_tuple_SizeSet := T.kt_tuple_SizeSet
    have t_nf_Form_Form := T.nf_Form_Form
    have t_nf_int_Form := T.nf_int_Form
    have t_nf_SizeSet_SizeSet := T.nf_SizeSet_SizeSet
    have t_nf_tuple_SizeSet := T.nf_tuple_SizeSet
    have t_xm_NoSize_NoSize := T.xm_NoSize_NoSize
    have t_xm_NoRing_NoSize := T.xm_NoRing_NoSize
    have t_xm_NoRing_NoRing := T.xm_NoRing_NoRing
    have t_xm_NotDecided_NoSize := T.xm_NotDecided_NoSize
    have t_xm_NotDecided_NoRing := T.xm_NotDecided_NoRing
    have t_xm_NotDecided_NotDecided := T.xm_NotDecided_NotDecided
    have t_xm_NoLag_NoSize := T.xm_NoLag_NoSize
    have t_xm_NoLag_NoRing := T.xm_NoLag_NoRing
    have t_xm_NoLag_NotDecided := T.xm_NoLag_NotDecided
    have t_xm_NoLag_NoLag := T.xm_NoLag_NoLag
    have t_xm_TooLong_TooLong := T.xm_TooLong_TooLong
    have t_k_Form := T.k_Form
    have t_k_Scheme := T.k_Scheme
    have t_k_Belief := T.k_Belief
    have t_k_SizeSet := T.k_SizeSet
    have e30 : (10 : Int) ^ Int.toNat 30 = 1000000000000000000000000000000 := by decide +kernel
    refine ⟨_, (pss_cons (ps_set (i := 1) sc_l_setting.nd rfl (Or.inl rfl) (pe_op op_add pe_int (pe_call (ok_l_draw T) (hr.mono (by decide)) (by rfl) T.m_l_draw T.F_l_draw.kp T.b_l_draw .nil pass0 (pa_cons (pv 0) (pa_cons pe_int pa_nil)))))
      (pss_cons (ps_set (i := 2) sc_l_setting.nd rfl (Or.inl rfl) (pe_ix (Rd.ixTK rfl) (pe_tup (pa_cons (pe_tup (pa_cons pe_str pa_nil)) (pa_cons (pe_tup (pa_cons pe_str pa_nil)) (pa_cons (pe_tup (pa_cons pe_str (pa_cons pe_str (pa_cons (pe_tup (pa_cons pe_int (pa_cons pe_int pa_nil))) pa_nil)))) (pa_cons (pe_tup (pa_cons pe_str (pa_cons pe_str (pa_cons (pe_tup (pa_cons pe_int (pa_cons pe_int pa_nil))) pa_nil)))) pa_nil))))) (pe_call (ok_l_draw T) (hr.mono (by decide)) (by rfl) T.m_l_draw T.F_l_draw.kp T.b_l_draw .nil pass0 (pa_cons (pv 0) (pa_cons pe_int pa_nil))) (fun _ _ => rfl)))
      (pss_cons (ps_set (i := 3) sc_l_setting.nd rfl (Or.inl rfl) (pe_ix (Rd.ixTK rfl) (pe_tup (pa_cons pe_str (pa_cons pe_str (pa_cons pe_str pa_nil)))) (pe_call (ok_l_draw T) (hr.mono (by decide)) (by rfl) T.m_l_draw T.F_l_draw.kp T.b_l_draw .nil pass0 (pa_cons (pv 0) (pa_cons pe_int pa_nil))) (fun _ _ => rfl)))
      (pss_cons (ps_if (pt_cmpR op_eq (pe_call (ok_l_draw T) (hr.mono (by decide)) (by rfl) T.m_l_draw T.F_l_draw.kp T.b_l_draw .nil pass0 (pa_cons (pv 0) (pa_cons pe_int pa_nil))) pe_int (nomark _)) (pss_cons (ps_set (i := 4) sc_l_setting.nd rfl (Or.inl rfl) (pe_op op_add pe_int (pe_call (ok_l_draw T) (hr.mono (by decide)) (by rfl) T.m_l_draw T.F_l_draw.kp T.b_l_draw .nil pass0 (pa_cons (pv 0) (pa_cons pe_int pa_nil)))))
      (pss_cons (ps_set (i := 5) sc_l_setting.nd rfl (Or.inl rfl) pe_int)
      (pss_cons (ps_set (i := 6) sc_l_setting.nd rfl (Or.inl rfl) (pe_call (ok_l_draw T) (hr.mono (by decide)) (by rfl) T.m_l_draw T.F_l_draw.kp T.b_l_draw .nil pass0 (pa_cons (pv 0) (pa_cons pe_int pa_nil))))
      (pss_cons (ps_if (pt_cmpR op_eq (pv 6) pe_int (nomark _)) (pss_one (ps_set (i := 5) sc_l_setting.nd rfl (Or.inl rfl) (pe_op op_mulW (pv 4) (pe_op op_mod (pe_callTy call_int1 (by rfl) T.n_int (by decide +kernel) (pa_cons (pe_call (ok_l_draw T) (hr.mono (by decide)) (by rfl) T.m_l_draw T.F_l_draw.kp T.b_l_draw .nil pass0 (pa_cons (pv 0) (pa_cons pe_int pa_nil))) pa_nil)) (pe_op op_add pe_int (pe_op op_fdivW pe_int (pv 4))))))) pss_nil) (pss_cons (ps_if (pt_cmpR op_eq (pv 6) pe_int (nomark _)) (pss_one (ps_set (i := 4) sc_l_setting.nd rfl (Or.inl rfl) (pe_op op_add pe_int (pe_call (ok_l_wide T) (hr.mono (by decide)) (by rfl) T.m_l_wide T.F_l_wide.kp T.b_l_wide .nil pass0 (pa_cons (pv 0) (pa_cons (pe_op op_sub (pe_op op_pow pe_int pe_int) pe_int) pa_nil)))))) pss_nil) (pss_cons (ps_set (i := 7) sc_l_setting.nd rfl (Or.inl rfl) (pe_op op_add (pe_op op_mulW (pv 1) (pv 4)) (pv 5))) (pss_cons (ps_set (i := 8) sc_l_setting.nd rfl (Or.inl rfl) (pe_ix (Rd.ixTK rfl) (pe_tup (pa_cons pe_str (pa_cons pe_str pa_nil))) (pe_op op_mulW (pe_callTy call_int1 (by rfl) T.n_int (by decide +kernel) (pa_cons (pe_cmpR op_le (pv 7) (pe_op op_mulW pe_int (pv 4)) (nomark _)) pa_nil)) (pe_call (ok_l_draw T) (hr.mono (by decide)) (by rfl) T.m_l_draw T.F_l_draw.kp T.b_l_draw .nil pass0 (pa_cons (pv 0) (pa_cons pe_int pa_nil)))) (fun _ _ => rfl))) (pss_one (ps_ret (pe_tup (pa_cons (pe_tup (pa_cons (pe_tup (pa_cons (pv 1) (pa_cons (pv 5) pa_nil))) (pa_cons (pv 8) (pa_cons (pv 3) (pa_cons (pv 2) pa_nil))))) (pa_cons (pv 4) (pa_cons (pv 7) pa_nil))))))))))))) pss_nil)
      (pss_cons (ps_set (i := 9) sc_l_setting.nd rfl (Or.inl rfl) (pe_op op_add pe_int (pe_ix (Rd.ixTK rfl) (pe_tup (pa_cons (pe_call (ok_l_draw T) (hr.mono (by decide)) (by rfl) T.m_l_draw T.F_l_draw.kp T.b_l_draw .nil pass0 (pa_cons (pv 0) (pa_cons pe_int pa_nil))) (pa_cons (pe_call (ok_l_draw T) (hr.mono (by decide)) (by rfl) T.m_l_draw T.F_l_draw.kp T.b_l_draw .nil pass0 (pa_cons (pv 0) (pa_cons pe_int pa_nil))) pa_nil))) (pe_call (ok_l_draw T) (hr.mono (by decide)) (by rfl) T.m_l_draw T.F_l_draw.kp T.b_l_draw .nil pass0 (pa_cons (pv 0) (pa_cons pe_int pa_nil))) (fun _ _ => rfl))))
      (pss_cons (ps_set (i := 7) sc_l_setting.nd rfl (Or.inl rfl) (pe_call (ok_l_power T) (hr.mono (by decide)) (by rfl) T.m_l_power T.F_l_power.kp T.b_l_power .nil pass0 (pa_cons (pv 9) pa_nil)))
      (pss_cons (ps_set (i := 4) sc_l_setting.nd rfl (Or.inl rfl) (pe_call (ok_l_power T) (hr.mono (by decide)) (by rfl) T.m_l_power T.F_l_power.kp T.b_l_power .nil pass0 (pa_cons (pe_op op_mod (pe_callTy call_int1 (by rfl) T.n_int (by decide +kernel) (pa_cons (pe_call (ok_l_draw T) (hr.mono (by decide)) (by rfl) T.m_l_draw T.F_l_draw.kp T.b_l_draw .nil pass0 (pa_cons (pv 0) (pa_cons pe_int pa_nil))) pa_nil)) (pe_op op_add (pv 9) (pe_callTy call_int1 (by rfl) T.n_int (by decide +kernel) (pa_cons (pe_cmpR op_lt (pv 9) pe_int (nomark _)) pa_nil)))) pa_nil)))
      (pss_cons (ps_set (i := 8) sc_l_setting.nd rfl (Or.inl rfl) (pe_ix (Rd.ixTK rfl) (pe_tup (pa_cons pe_str (pa_cons pe_str (pa_cons pe_str pa_nil)))) (pe_call (ok_l_draw T) (hr.mono (by decide)) (by rfl) T.m_l_draw T.F_l_draw.kp T.b_l_draw .nil pass0 (pa_cons (pv 0) (pa_cons (pe_op op_add pe_int (pe_callTy call_int1 (by rfl) T.n_int (by decide +kernel) (pa_cons (pe_cmpR op_le (pv 7) (pe_op op_mulW pe_int (pv 4)) (nomark _)) pa_nil))) pa_nil))) (fun _ _ => rfl)))
      (pss_one (ps_ret (pe_tup (pa_cons (pe_tup (pa_cons (pv 9) (pa_cons (pv 8) (pa_cons (pv 3) (pa_cons (pv 2) pa_nil))))) (pa_cons (pv 4) (pa_cons (pv 7) pa_nil)))))))))))))), ?_⟩
    try dsimp only [L2.cxOf, L2.Cx.nox, L2.Cx.wish]
    try rw [st_l_setting]
    with_reducible refine Rd.seq (Rd.asg (Rd.op (Rd.c (Rd.call (Rd.cons (Rd.var (by walk_at "vr") (Rd.cons (Rd.c (Rd.nil ?_)))))))))
    refine ⟨_, _, _, rfl, (by walk_at "hp"), (by walk_at "pool"), (by walk_at "sc"), (by walk_at "sc"), fun d1 o1 d1a d1b s1 => ?_⟩
    with_reducible refine Rd.i0 (Rd.name ?_)
    try dsimp only [Int.reduceToNat, List.set]
    with_reducible refine Rd.seq (Rd.asg (Rd.op (Rd.tup (Rd.cons (Rd.tup (Rd.cons (Rd.c (Rd.nil (Rd.laid (by walk_at "ll") ?_)))))))))
    intro p1 np1
    have ap_p1_a : p1 ≠ a := ne_none' np1 (by walk_at "hp")
    with_reducible refine Rd.cons (Rd.tup (Rd.cons (Rd.c (Rd.nil (Rd.laid (by walk_at "ll") ?_)))))
    intro p2 np2
    have ap_p2_a : p2 ≠ a := ne_none' np2 (by walk_at "hp")
    with_reducible refine Rd.cons (Rd.tup (Rd.cons (Rd.c (Rd.cons (Rd.c (Rd.cons (Rd.tup (Rd.cons (Rd.c (Rd.cons (Rd.c ?_)))))))))))
    with_reducible refine Rd.nil (Rd.laid (by walk_at "ll") ?_)
    intro p4 np4
    have ap_p4_a : p4 ≠ a := ne_none' np4 (by walk_at "hp")
    with_reducible refine Rd.nil (Rd.laid (by walk_at "ll") ?_)
    intro p3 np3
    have ap_p3_a : p3 ≠ a := ne_none' np3 (by walk_at "hp")
    with_reducible refine Rd.cons (Rd.tup (Rd.cons (Rd.c (Rd.cons (Rd.c (Rd.cons (Rd.tup (Rd.cons (Rd.c (Rd.cons (Rd.c ?_)))))))))))
    with_reducible refine Rd.nil (Rd.laid (by walk_at "ll") ?_)
    intro p6 np6
    have ap_p6_a : p6 ≠ a := ne_none' np6 (by walk_at "hp")
    with_reducible refine Rd.nil (Rd.laid (by walk_at "ll") ?_)
    intro p5 np5
    have ap_p5_a : p5 ≠ a := ne_none' np5 (by walk_at "hp")
    with_reducible refine Rd.nil (Rd.laid (by walk_at "ll") ?_)
    intro p0 np0
    have ap_p0_a : p0 ≠ a := ne_none' np0 (by walk_at "hp")
    with_reducible refine Rd.call (Rd.cons (Rd.var (by walk_at "vr") (Rd.cons (Rd.c (Rd.nil ?_)))))
    refine ⟨_, _, _, rfl, (by walk_at "hp"), (by walk_at "pool"), (by walk_at "sc"), (by walk_at "sc"), fun d2 o2 d2a d2b s2 => ?_⟩
    refine Rd.pickTH (fun Hx v => ∃ f, IsFill Hx v f ∧ WfF f) (by walk_at "hpt") ?_ (by omega) (by show (_ : Int) < ((4 : Nat) : Int); omega) (fun v_f hv_f => ?_)
    · intro v hv
      simp only [List.mem_cons, List.not_mem_nil, or_false] at hv
      rcases hv with rfl | rfl | rfl | rfl
      · exact ⟨.plain _, ⟨_, rfl, (by walk_at "hp")⟩, (show ("next" : Str) ∈ wPlain by decide +kernel)⟩
      · exact ⟨.plain _, ⟨_, rfl, (by walk_at "hp")⟩, (show ("note" : Str) ∈ wPlain by decide +kernel)⟩
      · exact ⟨.lim _ _ _ _, ⟨_, _, rfl, (by walk_at "hp"), (by walk_at "hp")⟩, (by decide +kernel), (by decide +kernel), by decide, by decide, by decide, by decide⟩
      · exact ⟨.lim _ _ _ _, ⟨_, _, rfl, (by walk_at "hp"), (by walk_at "hp")⟩, (by decide +kernel), (by decide +kernel), by decide, by decide, by decide, by decide⟩
    obtain ⟨fl, ifl, wfl⟩ := hv_f
    with_reducible refine Rd.name ?_
    try dsimp only [Int.reduceToNat, List.set]
    refine Rd.comp (fun Hx => Frm a H Hx ∧ Hx a = some o2 ∧ PoolO Hx a o2 ∧ IsFill Hx v_f fl) ⟨by walk_at "frm", by walk_at "hp", s2, ifl⟩ (fun Hb ⟨Fb, rb, sb, ifl⟩ => ?_)
    clear np0 np1 np2 np3 np4 np5 np6 ap_p0_a ap_p1_a ap_p2_a ap_p3_a ap_p4_a ap_p5_a ap_p6_a s1 s2
    with_reducible refine Rd.seq (Rd.asg (Rd.op (Rd.tup (Rd.cons (Rd.c (Rd.cons (Rd.c (Rd.cons (Rd.c (Rd.nil (Rd.laid (by walk_at "ll") ?_)))))))))))
    intro p7 np7
    have ap_p7_a : p7 ≠ a := ne_none' np7 (by walk_at "hp")
    with_reducible refine Rd.call (Rd.cons (Rd.var (by walk_at "vr") (Rd.cons (Rd.c (Rd.nil ?_)))))
    refine ⟨_, _, _, rfl, (by walk_at "hp"), (by walk_at "pool"), (by walk_at "sc"), (by walk_at "sc"), fun dT oT dTa dTb sT => ?_⟩
    refine Rd.pickT (fun v => ∃ s : Str, v = .str s ∧ s ∈ wEmpty) (by walk_at "hpt") (by intro v hv; simp only [List.mem_cons, List.not_mem_nil, or_false] at hv; rcases hv with rfl | rfl | rfl <;> exact ⟨_, rfl, (by decide +kernel)⟩) (by omega) (by show (_ : Int) < ((3 : Nat) : Int); omega) (fun v_e hv_e => ?_)
    obtain ⟨em, rfl, hem⟩ := hv_e
    with_reducible refine Rd.name ?_
    try dsimp only [Int.reduceToNat, List.set]
    with_reducible refine Rd.seq (Rd.ifS (Rd.test (Rd.op (Rd.call (Rd.cons (Rd.var (by walk_at "vr") (Rd.cons (Rd.c (Rd.nil ?_)))))))))
    refine ⟨_, _, _, rfl, (by walk_at "hp"), (by walk_at "pool"), (by walk_at "sc"), (by walk_at "sc"), fun dR oR dRa dRb sR => ?_⟩
    with_reducible refine Rd.c (Rd.eqS (by walk_at "vr") (Rd.bl ?_))
    refine Rd.ite (fun h0 => ?_) (fun h0 => ?_)
    · try simp only [decide_eq_true_eq, Bool.not_eq_true', decide_eq_false_iff_not, Bool.not_eq_true, Bool.not_eq_eq_eq_not, Bool.not_true, Bool.not_false] at h0
      with_reducible refine Rd.seq (Rd.asg (Rd.op (Rd.c (Rd.call (Rd.cons (Rd.var (by walk_at "vr") (Rd.cons (Rd.c (Rd.nil ?_)))))))))
      refine ⟨_, _, _, rfl, (by walk_at "hp"), (by walk_at "pool"), (by walk_at "sc"), (by walk_at "sc"), fun d5 o5 d5a d5b s5 => ?_⟩
      with_reducible refine Rd.i0 (Rd.name ?_)
      try dsimp only [Int.reduceToNat, List.set]
      with_reducible refine Rd.seq (Rd.asg (Rd.c (Rd.name ?_)))
      try dsimp only [Int.reduceToNat, List.set]
      with_reducible refine Rd.seq (Rd.asg (Rd.call (Rd.cons (Rd.var (by walk_at "vr") (Rd.cons (Rd.c (Rd.nil ?_)))))))
      refine ⟨_, _, _, rfl, (by walk_at "hp"), (by walk_at "pool"), (by walk_at "sc"), (by walk_at "sc"), fun dT oT dTa dTb sT => ?_⟩
      with_reducible refine Rd.name ?_
      try dsimp only [Int.reduceToNat, List.set]
      rcases (by omega : dT = 0 ∨ dT = 1 ∨ dT = 2) with rfl | rfl | rfl
      · with_reducible refine Rd.seq (Rd.ifS (Rd.test (Rd.op (Rd.var (by walk_at "vr") (Rd.c (Rd.eqS (by walk_at "vr") (Rd.bl (Rd.iteT (by walk_at "bT") (Rd.asg (Rd.op (Rd.var (by walk_at "vr") ?_)))))))))))
        with_reducible refine Rd.op (Rd.cB (Rd.cons (Rd.call (Rd.cons (Rd.var (by walk_at "vr") (Rd.cons (Rd.c (Rd.nil ?_))))))))
        refine ⟨_, _, _, rfl, (by walk_at "hp"), (by walk_at "pool"), (by walk_at "sc"), (by walk_at "sc"), fun dM oM dMa dMb sM => ?_⟩
        obtain ⟨q20, m20, m21⟩ := more2 (n := 1 + d5) (d := dM) (by omega)
        with_reducible refine Rd.nil ((.inl ⟨_, rfl, (Rd.op (Rd.c (Rd.op (Rd.c (Rd.var (by walk_at "vr") (Rd.iC (by walk_at "scd") (Rd.i0 (Rd.iC (by walk_at "sc") (Rd.iC (by walk_at "scm") (Rd.name ?_))))))))))⟩))
        try dsimp only [Int.reduceToNat, List.set]
        obtain ⟨mv, emv, mv0, mv1, mvd⟩ : ∃ mv : Int, mv = (1 + d5) * (dM % (1 + 20 / (1 + d5))) ∧ 0 ≤ mv ∧ mv ≤ 20 ∧ mv % (1 + d5) = 0 := ⟨_, rfl, (more_ok (by omega) dMa).1, (more_ok (by omega) dMa).2, Int.mul_emod_right _ _⟩
        rw [← emv]
        with_reducible refine Rd.seq (Rd.ifS (Rd.test (Rd.op (Rd.var (by walk_at "vr") (Rd.c (Rd.eqS (by walk_at "vr") (Rd.bl (Rd.iteF (by walk_at "bF") (Rd.next (Rd.seq (Rd.asg ?_)))))))))))
        with_reducible refine Rd.op (Rd.op (Rd.var (by walk_at "vr") (Rd.var (by walk_at "vr") (Rd.iC (by walk_at "scm") (Rd.var (by walk_at "vr") (Rd.i0 (Rd.name ?_)))))))
        try dsimp only [Int.reduceToNat, List.set]
        with_reducible refine Rd.seq (Rd.asg (Rd.op (Rd.tup (Rd.cons (Rd.c (Rd.cons (Rd.c (Rd.nil (Rd.laid (by walk_at "ll") ?_)))))))))
        intro p8 np8
        have ap_p8_a : p8 ≠ a := ne_none' np8 (by walk_at "hp")
        with_reducible refine Rd.op (Rd.cB (Rd.cons (Rd.op (Rd.var (by walk_at "vr") (Rd.op (Rd.c (Rd.var (by walk_at "vr") (Rd.iC (by walk_at "scm") (Rd.i0 (Rd.nil ((.inr ⟨_, rfl, ?_⟩))))))))))))
        with_reducible refine Rd.call (Rd.cons (Rd.var (by walk_at "vr") (Rd.cons (Rd.c (Rd.nil ?_)))))
        refine ⟨_, _, _, rfl, (by walk_at "hp"), (by walk_at "pool"), (by walk_at "sc"), (by walk_at "sc"), fun dR oR dRa dRb sR => ?_⟩
        with_reducible refine Rd.iC (by walk_at "scm") ?_
        have ixo := idx_ok (b := decide ((1 + d1) * (1 + d5) + mv ≤ 2 * (1 + d5))) dRa dRb
        refine Rd.pickTd (fun v => ∃ s : Str, v = .str s ∧ s ∈ wSlot ∧ s ≠ "mask" ∧ (s = "off" → (1 + d1) * (1 + d5) + mv ≤ 2 * (1 + d5))) (by walk_at "hpt") ixo.1 (by exact ixo.2.1) ?_ (fun v_r hv_r => ?_)
        · intro j v hj e
          match j, hj with
          | 0, hj => cases hj; exact ⟨_, rfl, by decide +kernel, by decide +kernel, fun z => absurd z (by decide +kernel)⟩
          | 1, hj => cases hj; exact ⟨_, rfl, by decide +kernel, by decide +kernel, fun _ => of_decide_eq_true (ixo.2.2 e)⟩
        obtain ⟨ru, rfl, hru, hnm, hof⟩ := hv_r
        with_reducible refine Rd.name ?_
        try dsimp only [Int.reduceToNat, List.set]
        with_reducible refine Rd.ret (Rd.tup (Rd.cons (Rd.tup (Rd.cons (Rd.tup (Rd.cons (Rd.var (by walk_at "vr") (Rd.cons (Rd.var (by walk_at "vr") (Rd.nil (Rd.laid (by walk_at "ll") ?_)))))))))))
        intro p11 np11
        have ap_p11_a : p11 ≠ a := ne_none' np11 (by walk_at "hp")
        with_reducible refine Rd.cons (Rd.var (by walk_at "vr") (Rd.cons (Rd.var (by walk_at "vr") (Rd.cons (Rd.var (by walk_at "vr") (Rd.nil (Rd.laid (by walk_at "ll") ?_)))))))
        intro p10 np10
        have ap_p10_a : p10 ≠ a := ne_none' np10 (by walk_at "hp")
        with_reducible refine Rd.cons (Rd.var (by walk_at "vr") (Rd.cons (Rd.var (by walk_at "vr") (Rd.nil (Rd.laid (by walk_at "ll") ?_)))))
        intro p9 np9
        have ap_p9_a : p9 ≠ a := ne_none' np9 (by walk_at "hp")
        have mm := mul_le3 (a := 1 + d1) (n := (1 + d5)) (by omega) (by omega) (by omega)
        refine k _ _ _ _ ⟨.form (1 + d1) mv, ru, em, fl, "refuse"⟩ _ _ _ _ (by walk_at "frm") (by walk_at "hp") (by walk_at "pool") (by walk_at "hp") (by walk_at "hp") ?_ ?_ ?_ ?_ ?_ ?_ ?_ ?_ ?_ ?_
        · exact rfl
        · exact ⟨_, rfl, (by walk_at "hp")⟩
        · exact ifl.keep (Frm.tups (by walk_at "frm") rb sb)
        · exact (wfr ⟨by omega, by omega, by omega, by omega⟩ hru hem wfl (show ("refuse" : Str) ∈ wWhen by decide +kernel) (fun _ _ _ => hnm))
        · omega
        · omega
        · omega
        · omega
        · exact ⟨mod_ok mvd, fun z => by have z1 := hof z.1; have z2 : 2 * (1 + d5) < (1 + d1) * (1 + d5) + mv := z.2; omega⟩
        · exact fun m h => by have := (mul_le3 (a := 1 + d1) (n := m) (by omega) (by omega) h).1; show 1 ≤ (1 + d1) * m + mv; omega
      · with_reducible refine Rd.seq (Rd.ifS (Rd.test (Rd.op (Rd.var (by walk_at "vr") (Rd.c (Rd.eqS (by walk_at "vr") (Rd.bl (Rd.iteF (by walk_at "bF") (Rd.next (Rd.seq (Rd.ifS ?_)))))))))))
        with_reducible refine Rd.test (Rd.op (Rd.var (by walk_at "vr") (Rd.c (Rd.eqS (by walk_at "vr") (Rd.bl (Rd.iteT (by walk_at "bT") (Rd.asg (Rd.op (Rd.c (Rd.call (Rd.cons ?_)))))))))))
        with_reducible refine Rd.var (by walk_at "vr") (Rd.cons (Rd.op (Rd.op (Rd.c (Rd.c (Rd.iC (by walk_at "scp") (Rd.c (Rd.i0 (Rd.nil ?_)))))))))
        refine ⟨_, _, _, rfl, (by walk_at "hp"), (by walk_at "pool"), (by first | omega | decide), (by first | omega | decide), fun dW oW dWa dWb sW => ?_⟩
        rw [e30] at dWb
        with_reducible refine Rd.i0 (Rd.name ?_)
        try dsimp only [Int.reduceToNat, List.set]
        with_reducible refine Rd.seq (Rd.asg (Rd.op (Rd.op (Rd.var (by walk_at "vr") (Rd.var (by walk_at "vr") (Rd.iC (by walk_at "scm") (Rd.var (by walk_at "vr") (Rd.i0 (Rd.name ?_)))))))))
        try dsimp only [Int.reduceToNat, List.set]
        with_reducible refine Rd.seq (Rd.asg (Rd.op (Rd.tup (Rd.cons (Rd.c (Rd.cons (Rd.c (Rd.nil (Rd.laid (by walk_at "ll") ?_)))))))))
        intro p8 np8
        have ap_p8_a : p8 ≠ a := ne_none' np8 (by walk_at "hp")
        with_reducible refine Rd.op (Rd.cB (Rd.cons (Rd.op (Rd.var (by walk_at "vr") (Rd.op (Rd.c (Rd.var (by walk_at "vr") (Rd.iC (by walk_at "scm") (Rd.i0 (Rd.nil ((.inr ⟨_, rfl, ?_⟩))))))))))))
        with_reducible refine Rd.call (Rd.cons (Rd.var (by walk_at "vr") (Rd.cons (Rd.c (Rd.nil ?_)))))
        refine ⟨_, _, _, rfl, (by walk_at "hp"), (by walk_at "pool"), (by walk_at "sc"), (by walk_at "sc"), fun dR oR dRa dRb sR => ?_⟩
        with_reducible refine Rd.iC (by walk_at "scm") ?_
        have ixo := idx_ok (b := decide ((1 + d1) * (1 + dW) + 0 ≤ 2 * (1 + dW))) dRa dRb
        refine Rd.pickTd (fun v => ∃ s : Str, v = .str s ∧ s ∈ wSlot ∧ s ≠ "mask" ∧ (s = "off" → (1 + d1) * (1 + dW) + 0 ≤ 2 * (1 + dW))) (by walk_at "hpt") ixo.1 (by exact ixo.2.1) ?_ (fun v_r hv_r => ?_)
        · intro j v hj e
          match j, hj with
          | 0, hj => cases hj; exact ⟨_, rfl, by decide +kernel, by decide +kernel, fun z => absurd z (by decide +kernel)⟩
          | 1, hj => cases hj; exact ⟨_, rfl, by decide +kernel, by decide +kernel, fun _ => of_decide_eq_true (ixo.2.2 e)⟩
        obtain ⟨ru, rfl, hru, hnm, hof⟩ := hv_r
        with_reducible refine Rd.name ?_
        try dsimp only [Int.reduceToNat, List.set]
        with_reducible refine Rd.ret (Rd.tup (Rd.cons (Rd.tup (Rd.cons (Rd.tup (Rd.cons (Rd.var (by walk_at "vr") (Rd.cons (Rd.var (by walk_at "vr") (Rd.nil (Rd.laid (by walk_at "ll") ?_)))))))))))
        intro p11 np11
        have ap_p11_a : p11 ≠ a := ne_none' np11 (by walk_at "hp")
        with_reducible refine Rd.cons (Rd.var (by walk_at "vr") (Rd.cons (Rd.var (by walk_at "vr") (Rd.cons (Rd.var (by walk_at "vr") (Rd.nil (Rd.laid (by walk_at "ll") ?_)))))))
        intro p10 np10
        have ap_p10_a : p10 ≠ a := ne_none' np10 (by walk_at "hp")
        with_reducible refine Rd.cons (Rd.var (by walk_at "vr") (Rd.cons (Rd.var (by walk_at "vr") (Rd.nil (Rd.laid (by walk_at "ll") ?_)))))
        intro p9 np9
        have ap_p9_a : p9 ≠ a := ne_none' np9 (by walk_at "hp")
        have mm := mul_le3 (a := 1 + d1) (n := (1 + dW)) (by omega) (by omega) (by omega)
        refine k _ _ _ _ ⟨.form (1 + d1) 0, ru, em, fl, "refuse"⟩ _ _ _ _ (by walk_at "frm") (by walk_at "hp") (by walk_at "pool") (by walk_at "hp") (by walk_at "hp") ?_ ?_ ?_ ?_ ?_ ?_ ?_ ?_ ?_ ?_
        · exact rfl
        · exact ⟨_, rfl, (by walk_at "hp")⟩
        · exact ifl.keep (Frm.tups (by walk_at "frm") rb sb)
        · exact (wfr ⟨by omega, by omega, by omega, by omega⟩ hru hem wfl (show ("refuse" : Str) ∈ wWhen by decide +kernel) (fun _ _ _ => hnm))
        · omega
        · omega
        · omega
        · omega
        · exact ⟨mod_ok (Int.zero_emod _), fun z => by have z1 := hof z.1; have z2 : 2 * (1 + dW) < (1 + d1) * (1 + dW) + 0 := z.2; omega⟩
        · exact fun m h => by have := (mul_le3 (a := 1 + d1) (n := m) (by omega) (by omega) h).1; show 1 ≤ (1 + d1) * m + 0; omega
      · with_reducible refine Rd.seq (Rd.ifS (Rd.test (Rd.op (Rd.var (by walk_at "vr") (Rd.c (Rd.eqS (by walk_at "vr") (Rd.bl (Rd.iteF (by walk_at "bF") (Rd.next (Rd.seq (Rd.ifS ?_)))))))))))
        with_reducible refine Rd.test (Rd.op (Rd.var (by walk_at "vr") (Rd.c (Rd.eqS (by walk_at "vr") (Rd.bl (Rd.iteF (by walk_at "bF") (Rd.next (Rd.seq (Rd.asg (Rd.op (Rd.op ?_)))))))))))
        with_reducible refine Rd.var (by walk_at "vr") (Rd.var (by walk_at "vr") (Rd.iC (by walk_at "scm") (Rd.var (by walk_at "vr") (Rd.i0 (Rd.name ?_)))))
        try dsimp only [Int.reduceToNat, List.set]
        with_reducible refine Rd.seq (Rd.asg (Rd.op (Rd.tup (Rd.cons (Rd.c (Rd.cons (Rd.c (Rd.nil (Rd.laid (by walk_at "ll") ?_)))))))))
        intro p8 np8
        have ap_p8_a : p8 ≠ a := ne_none' np8 (by walk_at "hp")
        with_reducible refine Rd.op (Rd.cB (Rd.cons (Rd.op (Rd.var (by walk_at "vr") (Rd.op (Rd.c (Rd.var (by walk_at "vr") (Rd.iC (by walk_at "scm") (Rd.i0 (Rd.nil ((.inr ⟨_, rfl, ?_⟩))))))))))))
        with_reducible refine Rd.call (Rd.cons (Rd.var (by walk_at "vr") (Rd.cons (Rd.c (Rd.nil ?_)))))
        refine ⟨_, _, _, rfl, (by walk_at "hp"), (by walk_at "pool"), (by walk_at "sc"), (by walk_at "sc"), fun dR oR dRa dRb sR => ?_⟩
        with_reducible refine Rd.iC (by walk_at "scm") ?_
        have ixo := idx_ok (b := decide ((1 + d1) * (1 + d5) + 0 ≤ 2 * (1 + d5))) dRa dRb
        refine Rd.pickTd (fun v => ∃ s : Str, v = .str s ∧ s ∈ wSlot ∧ s ≠ "mask" ∧ (s = "off" → (1 + d1) * (1 + d5) + 0 ≤ 2 * (1 + d5))) (by walk_at "hpt") ixo.1 (by exact ixo.2.1) ?_ (fun v_r hv_r => ?_)
        · intro j v hj e
          match j, hj with
          | 0, hj => cases hj; exact ⟨_, rfl, by decide +kernel, by decide +kernel, fun z => absurd z (by decide +kernel)⟩
          | 1, hj => cases hj; exact ⟨_, rfl, by decide +kernel, by decide +kernel, fun _ => of_decide_eq_true (ixo.2.2 e)⟩
        obtain ⟨ru, rfl, hru, hnm, hof⟩ := hv_r
        with_reducible refine Rd.name ?_
        try dsimp only [Int.reduceToNat, List.set]
        with_reducible refine Rd.ret (Rd.tup (Rd.cons (Rd.tup (Rd.cons (Rd.tup (Rd.cons (Rd.var (by walk_at "vr") (Rd.cons (Rd.var (by walk_at "vr") (Rd.nil (Rd.laid (by walk_at "ll") ?_)))))))))))
        intro p11 np11
        have ap_p11_a : p11 ≠ a := ne_none' np11 (by walk_at "hp")
        with_reducible refine Rd.cons (Rd.var (by walk_at "vr") (Rd.cons (Rd.var (by walk_at "vr") (Rd.cons (Rd.var (by walk_at "vr") (Rd.nil (Rd.laid (by walk_at "ll") ?_)))))))
        intro p10 np10
        have ap_p10_a : p10 ≠ a := ne_none' np10 (by walk_at "hp")
        with_reducible refine Rd.cons (Rd.var (by walk_at "vr") (Rd.cons (Rd.var (by walk_at "vr") (Rd.nil (Rd.laid (by walk_at "ll") ?_)))))
        intro p9 np9
        have ap_p9_a : p9 ≠ a := ne_none' np9 (by walk_at "hp")
        have mm := mul_le3 (a := 1 + d1) (n := (1 + d5)) (by omega) (by omega) (by omega)
        refine k _ _ _ _ ⟨.form (1 + d1) 0, ru, em, fl, "refuse"⟩ _ _ _ _ (by walk_at "frm") (by walk_at "hp") (by walk_at "pool") (by walk_at "hp") (by walk_at "hp") ?_ ?_ ?_ ?_ ?_ ?_ ?_ ?_ ?_ ?_
        · exact rfl
        · exact ⟨_, rfl, (by walk_at "hp")⟩
        · exact ifl.keep (Frm.tups (by walk_at "frm") rb sb)
        · exact (wfr ⟨by omega, by omega, by omega, by omega⟩ hru hem wfl (show ("refuse" : Str) ∈ wWhen by decide +kernel) (fun _ _ _ => hnm))
        · omega
        · omega
        · omega
        · omega
        · exact ⟨mod_ok (Int.zero_emod _), fun z => by have z1 := hof z.1; have z2 : 2 * (1 + d5) < (1 + d1) * (1 + d5) + 0 := z.2; omega⟩
        · exact fun m h => by have := (mul_le3 (a := 1 + d1) (n := m) (by omega) (by omega) h).1; show 1 ≤ (1 + d1) * m + 0; omega
    · try simp only [decide_eq_true_eq, Bool.not_eq_true', decide_eq_false_iff_not, Bool.not_eq_true, Bool.not_eq_eq_eq_not, Bool.not_true, Bool.not_false, Int.not_lt, Int.not_le, Decidable.not_not] at h0
      with_reducible refine Rd.next (Rd.seq (Rd.asg (Rd.op (Rd.c (Rd.op (Rd.tup (Rd.cons (Rd.call (Rd.cons (Rd.var (by walk_at "vr") (Rd.cons ?_)))))))))))
      with_reducible refine Rd.c (Rd.nil ?_)
      refine ⟨_, _, _, rfl, (by walk_at "hp"), (by walk_at "pool"), (by walk_at "sc"), (by walk_at "sc"), fun d12 o12 d12a d12b s12 => ?_⟩
      with_reducible refine Rd.cons (Rd.call (Rd.cons (Rd.var (by walk_at "vr") (Rd.cons (Rd.c (Rd.nil ?_))))))
      refine ⟨_, _, _, rfl, (by walk_at "hp"), (by walk_at "pool"), (by walk_at "sc"), (by walk_at "sc"), fun dK oK dKa dKb sK => ?_⟩
      with_reducible refine Rd.nil (Rd.laid (by walk_at "ll") ?_)
      intro p12 np12
      have ap_p12_a : p12 ≠ a := ne_none' np12 (by walk_at "hp")
      with_reducible refine Rd.call (Rd.cons (Rd.var (by walk_at "vr") (Rd.cons (Rd.c (Rd.nil ?_)))))
      refine ⟨_, _, _, rfl, (by walk_at "hp"), (by walk_at "pool"), (by walk_at "sc"), (by walk_at "sc"), fun dR oR dRa dRb sR => ?_⟩
      refine Rd.pickT (fun v => ∃ i : Int, v = .int i ∧ 0 ≤ i ∧ i ≤ 99) (by walk_at "hpt") (by intro v hv; simp only [List.mem_cons, List.not_mem_nil, or_false] at hv; rcases hv with rfl | rfl <;> exact ⟨_, rfl, (by omega), (by omega)⟩) (by omega) (by show (_ : Int) < ((2 : Nat) : Int); omega) (fun v_w hv_w => ?_)
      obtain ⟨iw, rfl, iw0, iw1⟩ := hv_w
      with_reducible refine Rd.i0 (Rd.name ?_)
      try dsimp only [Int.reduceToNat, List.set]
      with_reducible refine Rd.seq (Rd.asg (Rd.call (Rd.cons (Rd.var (by walk_at "vr") (Rd.nil ?_)))))
      refine ⟨_, rfl, (by walk_at "sc"), (by walk_at "sc"), ?_⟩
      have pM := pow_le3 (i := (1 + iw).toNat) (by omega)
      have pM1 := pow_pos3 (1 + iw).toNat
      with_reducible refine Rd.name ?_
      try dsimp only [Int.reduceToNat, List.set]
      with_reducible refine Rd.seq (Rd.asg (Rd.call (Rd.cons (Rd.op (Rd.cB (Rd.cons (Rd.call (Rd.cons (Rd.var (by walk_at "vr") (Rd.cons (Rd.c ?_)))))))))))
      with_reducible refine Rd.nil ?_
      refine ⟨_, _, _, rfl, (by walk_at "hp"), (by walk_at "pool"), (by walk_at "sc"), (by walk_at "sc"), fun dK oK dKa dKb sK => ?_⟩
      with_reducible refine Rd.nil ((.inl ⟨_, rfl, (Rd.op (Rd.var (by walk_at "vr") (Rd.cB (Rd.cons (Rd.op (Rd.var (by walk_at "vr") (Rd.c (Rd.i0 (Rd.nil ((.inr ⟨_, rfl, ?_⟩)))))))))))⟩))
      with_reducible refine Rd.i0 (Rd.iC (by walk_at "sc") (Rd.nil ?_))
      obtain ⟨kk, ekk, kk0, kk1, kk2⟩ : ∃ kk : Int, kk = dK % (1 + iw + if decide (1 + iw < 100) = true then 1 else 0) ∧ 0 ≤ kk ∧ kk ≤ 99 ∧ kk ≤ 1 + iw := ⟨_, rfl, wide_ok iw0 iw1⟩
      rw [← ekk]
      refine ⟨_, rfl, (by walk_at "sc"), (by walk_at "sc"), ?_⟩
      have pN := pow_le99 (i := kk.toNat) (by omega)
      have pN1 := pow_pos3 kk.toNat
      have pNM := pow_mono3 (i := kk.toNat) (j := (1 + iw).toNat) (by omega)
      with_reducible refine Rd.name ?_
      try dsimp only [Int.reduceToNat, List.set]
      with_reducible refine Rd.seq (Rd.asg (Rd.op (Rd.tup (Rd.cons (Rd.c (Rd.cons (Rd.c (Rd.cons (Rd.c (Rd.nil (Rd.laid (by walk_at "ll") ?_)))))))))))
      intro p13 np13
      have ap_p13_a : p13 ≠ a := ne_none' np13 (by walk_at "hp")
      with_reducible refine Rd.call (Rd.cons (Rd.var (by walk_at "vr") (Rd.cons (Rd.op (Rd.c (Rd.cB (Rd.cons (Rd.op (Rd.var (by walk_at "vr") (Rd.op (Rd.c ?_)))))))))))
      with_reducible refine Rd.var (by walk_at "vr") (Rd.iC (by walk_at "scm") (Rd.i0 (Rd.nil ((.inr ⟨_, rfl, (Rd.i0 (Rd.nil ?_))⟩)))))
      refine ⟨_, _, _, rfl, (by walk_at "hp"), (by walk_at "pool"), (by walk_at "sc"), (by walk_at "sc"), fun dR oR dRa dRb sR => ?_⟩
      have ixo := idx3 dRb
      refine Rd.pickTd (fun v => ∃ s : Str, v = .str s ∧ s ∈ wSlot ∧ (s = "off" → (2 ^ (1 + iw).toNat : Int) ≤ 2 * 2 ^ kk.toNat)) (by walk_at "hpt") dRa (by exact ixo.1) ?_ (fun v_r hv_r => ?_)
      · intro j v hj e
        match j, hj with
        | 0, hj => cases hj; exact ⟨_, rfl, by decide +kernel, fun z => absurd z (by decide +kernel)⟩
        | 1, hj => cases hj; exact ⟨_, rfl, by decide +kernel, fun z => absurd z (by decide +kernel)⟩
        | 2, hj => cases hj; exact ⟨_, rfl, by decide +kernel, fun _ => of_decide_eq_true (ixo.2 e)⟩
      obtain ⟨ru, rfl, hru, hof⟩ := hv_r
      with_reducible refine Rd.name ?_
      try dsimp only [Int.reduceToNat, List.set]
      with_reducible refine Rd.ret (Rd.tup (Rd.cons (Rd.tup (Rd.cons (Rd.var (by walk_at "vr") (Rd.cons (Rd.var (by walk_at "vr") (Rd.cons (Rd.var (by walk_at "vr") (Rd.cons (Rd.var (by walk_at "vr") ?_)))))))))))
      with_reducible refine Rd.nil (Rd.laid (by walk_at "ll") ?_)
      intro p15 np15
      have ap_p15_a : p15 ≠ a := ne_none' np15 (by walk_at "hp")
      with_reducible refine Rd.cons (Rd.var (by walk_at "vr") (Rd.cons (Rd.var (by walk_at "vr") (Rd.nil (Rd.laid (by walk_at "ll") ?_)))))
      intro p14 np14
      have ap_p14_a : p14 ≠ a := ne_none' np14 (by walk_at "hp")
      refine k _ _ _ _ ⟨.width (1 + iw), ru, em, fl, "refuse"⟩ _ _ _ _ (by walk_at "frm") (by walk_at "hp") (by walk_at "pool") (by walk_at "hp") (by walk_at "hp") ?_ ?_ ?_ ?_ ?_ ?_ ?_ ?_ ?_ ?_
      · exact (Int.one_mul _).symm
      · exact rfl
      · exact ifl.keep (Frm.tups (by walk_at "frm") rb sb)
      · exact (wfr ⟨by omega, by omega⟩ hru hem wfl (show ("refuse" : Str) ∈ wWhen by decide +kernel) (fun _ _ z => by cases z))
      · omega
      · omega
      · omega
      · omega
      · exact ⟨(by show (1 * 2 ^ (1 + iw).toNat : Int) % 2 ^ kk.toNat = 0; rw [Int.one_mul]; exact pow_dvd3 (by omega)), fun z => by have z1 := hof z.1; have z2 : (2 : Int) * 2 ^ kk.toNat < 1 * 2 ^ (1 + iw).toNat := z.2; omega⟩
      · exact fun m h => by show (1 : Int) ≤ 1 * 2 ^ (1 + iw).toNat; omega
/-! _law_greater -/
theorem sc_l_greater : FnScope ["_law_pool_here", "_law_row", "_law_n", "_law_modulus"] ["_law_pool_here", "_law_row", "_law_n", "_law_modulus"] (defScope s_l_greater) := ⟨rfl, rfl, rfl, by decide +kernel, rfl, by decide +kernel, by decide +kernel⟩
theorem st_l_greater {v0 v1 v2 v3 : V} : L2.start ["_law_pool_here", "_law_row", "_law_n", "_law_modulus"] [v0, v1, v2, v3] = [some v0, some v1, some v2, some v3] := rfl
abbrev sp_l_greater (K : PySem.W.Frag) (A : Adr) : Sp := fun vs H Q _ => ∃ (a : Addr) (o : HO) (pr : Addr) (vt vf : V) (t : Pt) (n : Int), vs = [.ref a, .ref pr, .int n, .int (modV t.wrap n)] ∧ H a = some o ∧ PoolO H a o ∧ H pr = some (.tup [vt, .str t.slot, .str t.empty, vf]) ∧ IsTurn H vt t.wrap ∧ WfW t.wrap ∧ 1 ≤ n ∧ n ≤ 1000000000000000000000000000000 ∧ 1 ≤ modV t.wrap n ∧ Good t n ∧ ∀ (q : Addr) (n' : Int) (o' : HO) (H' : Hp), Frm a H H' → H' a = some o' → PoolO H' a o' → H' q = some (.tup [.int n', .int (modV t.wrap n')]) → 1 ≤ n' → n' ≤ 1000000000000000000000000000000 → 1 ≤ modV t.wrap n' → Good t n' → Q (.ref q) H'
theorem ok_l_greater (T : Txt w K mg A) : FnOk P w K mg base CX0 3 A.f_l_greater A.d_l_greater ["_law_pool_here", "_law_row", "_law_n", "_law_modulus"] (sp_l_greater K A) := by
  refine T.F_l_greater.ok sc_l_greater (fun vs H Q E h => ?_) (fun cdv Ar outer s H vs Q E hr h => ?_)
  · obtain ⟨a, o, pr, vt, vf, t, n, rfl, ha, ho, hpr, ht, wfw, n1, n2, hm, gd, k⟩ := h
    rfl
  · obtain ⟨a, o, pr, vt, vf, t, n, rfl, ha, ho, hpr, ht, wfw, n1, n2, hm, gd, k⟩ := h
    have hu := hu_of hr
    have t_q_PART_NAMES := T.q_PART_NAMES
    have t_q_PART_WORDS_slot := T.q_PART_WORDS_slot
    have t_d_PART_WORDS_slot := T.d_PART_WORDS_slot
    have t_q_PART_WORDS_empty := T.q_PART_WORDS_empty
    have t_d_PART_WORDS_empty := T.d_PART_WORDS_empty
    have t_q_PART_WORDS_when := T.q_PART_WORDS_when
    have t_d_PART_WORDS_when := T.d_PART_WORDS_when
    have t_q_MEASURES := T.q_MEASURES
    have t_q_SIGNS := T.q_SIGNS
    have t_q_PLAIN_FULLS := T.q_PLAIN_FULLS
    have t_i_Form := T.i_Form
    have t_kt_Form_Form := T.kt_Form_Form
    have t_kt_int_Form := T.kt_int_Form
    have t_i_SizeSet := T.i_SizeSet
    have t_kt_SizeSet_SizeSet := T.kt_SizeSet_SizeSet
    have t_kt_tuple_SizeSet := T.kt_tuple_SizeSet
    have t_nf_Form_Form := T.nf_Form_Form
    have t_nf_int_Form := T.nf_int_Form
    have t_nf_SizeSet_SizeSet := T.nf_SizeSet_SizeSet
    have t_nf_tuple_SizeSet := T.nf_tuple_SizeSet
    have t_xm_NoSize_NoSize := T.xm_NoSize_NoSize
    have t_xm_NoRing_NoSize := T.xm_NoRing_NoSize
    have t_xm_NoRing_NoRing := T.xm_NoRing_NoRing
    have t_xm_NotDecided_NoSize := T.xm_NotDecided_NoSize
    have t_xm_NotDecided_NoRing := T.xm_NotDecided_NoRing
    have t_xm_NotDecided_NotDecided := T.xm_NotDecided_NotDecided
    have t_xm_NoLag_NoSize := T.xm_NoLag_NoSize
    have t_xm_NoLag_NoRing := T.xm_NoLag_NoRing
    have t_xm_NoLag_NotDecided := T.xm_NoLag_NotDecided
    have t_xm_NoLag_NoLag := T.xm_NoLag_NoLag
    have t_xm_TooLong_TooLong := T.xm_TooLong_TooLong
    have t_k_Form := T.k_Form
    have t_k_Scheme := T.k_Scheme
    have t_k_Belief := T.k_Belief
    have t_k_SizeSet := T.k_SizeSet
    have nap := ho.ntup ha hpr
    rcases ewr : t.wrap with w | ⟨s, b⟩
    rotate_left
    · rw [ewr] at ht wfw
      obtain ⟨p2, rfl, hp2⟩ := ht
      have nap2 := ho.ntup ha hp2
      obtain ⟨w1, w2, w3, w4⟩ := wfw
      rw [ewr] at hm
      have hm' : 1 ≤ s * n + b := hm
      refine ⟨_, (pss_cons (ps_if (PW.pt (pw_and (pt_val (pe_callB (Rd.isi (K := K) rfl) (by rfl) T.n_isinstance (by decide +kernel) (pa_cons (pe_ix (Rd.ixTK rfl) (pv 1) pe_int (fun _ _ => rfl)) (pa_cons (pe_bltn (v := .ty "tuple") (u := .type "tuple") (by rfl) T.n_tuple (by decide +kernel) rfl) pa_nil)))) (pw_and (pt_cmpR op_eq (pe_ix (Rd.ixTK rfl) (pe_ix (Rd.ixTK rfl) (pv 1) pe_int (fun _ _ => rfl)) pe_int (fun _ _ => rfl)) pe_int (nomark _)) (pw_and1 (pt_cmpR op_eq (pe_call (ok_l_draw T) (hr.mono (by decide)) (by rfl) T.m_l_draw T.F_l_draw.kp T.b_l_draw .nil pass0 (pa_cons (pv 0) (pa_cons pe_int pa_nil))) pe_int (nomark _)))))) (pss_cons (ps_set (i := 2) sc_l_greater.nd rfl (Or.inl rfl) (pe_op op_add (pe_op op_fdivW pe_int (pe_ix (Rd.ixTK rfl) (pe_ix (Rd.ixTK rfl) (pv 1) pe_int (fun _ _ => rfl)) pe_int (fun _ _ => rfl))) (pe_call (ok_l_draw T) (hr.mono (by decide)) (by rfl) T.m_l_draw T.F_l_draw.kp T.b_l_draw .nil pass0 (pa_cons (pv 0) (pa_cons pe_int pa_nil)))))
      (pss_one (ps_set (i := 3) sc_l_greater.nd rfl (Or.inl rfl) (pe_op op_mulW (pe_ix (Rd.ixTK rfl) (pe_ix (Rd.ixTK rfl) (pv 1) pe_int (fun _ _ => rfl)) pe_int (fun _ _ => rfl)) (pv 2))))) pss_nil)
      (pss_one (ps_ret (pe_tup (pa_cons (pv 2) (pa_cons (pv 3) pa_nil)))))), ?_⟩
      try dsimp only [L2.cxOf, L2.Cx.nox, L2.Cx.wish]
      try rw [st_l_greater]
      with_reducible refine Rd.seq (Rd.ifS (Rd.and (Rd.tb (Rd.cB (Rd.cons (Rd.op (Rd.var (by walk_at "vr") (Rd.c (Rd.ixT (by walk_at "hpt") (by walk_at "vr") (Rd.cons (Rd.c ?_)))))))))))
      with_reducible refine Rd.nil ?_
      refine ⟨_, _, _, _, _, rfl, (by walk_at "clsv"), (by walk_at "tyx"), (by walk_at "kit"), ?_⟩
      with_reducible refine Rd.bl (Rd.iteT (by walk_at "bT") (Rd.and (Rd.test (Rd.op (Rd.op (Rd.op (Rd.var (by walk_at "vr") (Rd.c (Rd.ixT (by walk_at "hpt") (by walk_at "vr") (Rd.c (Rd.ixT (by walk_at "hpt") (by walk_at "vr") ?_)))))))))))
      with_reducible refine Rd.c (Rd.eqS (by walk_at "vr") (Rd.bl ?_))
      refine Rd.ite (fun h1 => ?_) (fun h1 => ?_)
      · try simp only [decide_eq_true_eq, Bool.not_eq_true', decide_eq_false_iff_not, Bool.not_eq_true, Bool.not_eq_eq_eq_not, Bool.not_true, Bool.not_false] at h1
        with_reducible refine Rd.test (Rd.op (Rd.call (Rd.cons (Rd.var (by walk_at "vr") (Rd.cons (Rd.c (Rd.nil ?_)))))))
        refine ⟨_, _, _, rfl, (by walk_at "hp"), (by walk_at "pool"), (by walk_at "sc"), (by walk_at "sc"), fun dF oF dFa dFb sF => ?_⟩
        obtain rfl := V.int.inj h1
        have s1 : 1 ≤ s := by
          rcases (by omega : s = 0 ∨ 1 ≤ s) with e | e
          · subst e; rw [Int.zero_mul] at hm'; omega
          · exact e
        with_reducible refine Rd.c (Rd.eqS (by walk_at "vr") (Rd.bl ?_))
        refine Rd.ite (fun h2 => ?_) (fun h2 => ?_)
        · try simp only [decide_eq_true_eq, Bool.not_eq_true', decide_eq_false_iff_not, Bool.not_eq_true, Bool.not_eq_eq_eq_not, Bool.not_true, Bool.not_false] at h2
          with_reducible refine Rd.seq (Rd.asg (Rd.op (Rd.op (Rd.c (Rd.op (Rd.op (Rd.var (by walk_at "vr") (Rd.c (Rd.ixT (by walk_at "hpt") (by walk_at "vr") (Rd.c (Rd.ixT (by walk_at "hpt") (by walk_at "vr") ?_)))))))))))
          with_reducible refine Rd.iC (by walk_at "scd") (Rd.call (Rd.cons (Rd.var (by walk_at "vr") (Rd.cons (Rd.c (Rd.nil ?_))))))
          refine ⟨_, _, _, rfl, (by walk_at "hp"), (by walk_at "pool"), (by walk_at "sc"), (by walk_at "sc"), fun dG oG dGa dGb sG => ?_⟩
          have q : 1 ≤ 2000 / s + dG ∧ 2000 / s + dG ≤ 3000 := by
            rcases (by omega : s = 1 ∨ s = 2 ∨ s = 3 ∨ s = 4) with e | e | e | e <;> rw [e] <;> omega
          have q3 : 1 ≤ s * (2000 / s + dG) + 0 := by
            have := Int.mul_le_mul_of_nonneg_right s1 (show 0 ≤ 2000 / s + dG by omega)
            omega
          with_reducible refine Rd.i0 (Rd.name ?_)
          try dsimp only [Int.reduceToNat, List.set]
          with_reducible refine Rd.asg (Rd.op (Rd.op (Rd.op (Rd.var (by walk_at "vr") (Rd.c (Rd.ixT (by walk_at "hpt") (by walk_at "vr") (Rd.c (Rd.ixT (by walk_at "hpt") (by walk_at "vr") (Rd.var (by walk_at "vr") (Rd.iC (by walk_at "scm") (Rd.name ?_)))))))))))
          try dsimp only [Int.reduceToNat, List.set]
          with_reducible refine Rd.ret (Rd.tup (Rd.cons (Rd.var (by walk_at "vr") (Rd.cons (Rd.var (by walk_at "vr") (Rd.nil (Rd.laid (by walk_at "ll") ?_)))))))
          intro p0 np0
          first
          | (exact k _ n _ _ (by walk_at "frm") (by walk_at "hp") (by walk_at "pool") (by rw [ewr]; exact L2.upd_same) n1 n2 (by rw [ewr]; exact hm) gd)
          | (exact k _ (2000 / s + dG) _ _ (by walk_at "frm") (by walk_at "hp") (by walk_at "pool") (by rw [ewr]; show _ = some (HO.tup [V.int _, V.int (s * (2000 / s + dG) + 0)]); rw [Int.add_zero]; exact L2.upd_same) q.1 (by omega) (by rw [ewr]; exact q3) (good_form ewr gd s1 n1 q.1))
        · try simp only [decide_eq_true_eq, Bool.not_eq_true', decide_eq_false_iff_not, Bool.not_eq_true, Bool.not_eq_eq_eq_not, Bool.not_true, Bool.not_false, Int.not_lt, Int.not_le, Decidable.not_not] at h2
          with_reducible refine Rd.next (Rd.ret (Rd.tup (Rd.cons (Rd.var (by walk_at "vr") (Rd.cons (Rd.var (by walk_at "vr") (Rd.nil (Rd.laid (by walk_at "ll") ?_))))))))
          intro p0 np0
          first
          | (exact k _ n _ _ (by walk_at "frm") (by walk_at "hp") (by walk_at "pool") (by rw [ewr]; exact L2.upd_same) n1 n2 (by rw [ewr]; exact hm) gd)
          | (exact k _ (2000 / s + dG) _ _ (by walk_at "frm") (by walk_at "hp") (by walk_at "pool") (by rw [ewr]; show _ = some (HO.tup [V.int _, V.int (s * (2000 / s + dG) + 0)]); rw [Int.add_zero]; exact L2.upd_same) q.1 (by omega) (by rw [ewr]; exact q3) (good_form ewr gd s1 n1 q.1))
      · try simp only [decide_eq_true_eq, Bool.not_eq_true', decide_eq_false_iff_not, Bool.not_eq_true, Bool.not_eq_eq_eq_not, Bool.not_true, Bool.not_false, Int.not_lt, Int.not_le, Decidable.not_not] at h1
        with_reducible refine Rd.iteF rfl (Rd.next (Rd.ret (Rd.tup (Rd.cons (Rd.var (by walk_at "vr") (Rd.cons (Rd.var (by walk_at "vr") (Rd.nil (Rd.laid (by walk_at "ll") ?_)))))))))
        intro p0 np0
        first
        | (exact k _ n _ _ (by walk_at "frm") (by walk_at "hp") (by walk_at "pool") (by rw [ewr]; exact L2.upd_same) n1 n2 (by rw [ewr]; exact hm) gd)
        | (exact k _ (2000 / s + dG) _ _ (by walk_at "frm") (by walk_at "hp") (by walk_at "pool") (by rw [ewr]; show _ = some (HO.tup [V.int _, V.int (s * (2000 / s + dG) + 0)]); rw [Int.add_zero]; exact L2.upd_same) q.1 (by omega) (by rw [ewr]; exact q3) (good_form ewr gd s1 n1 q.1))
    · rw [ewr] at ht
      obtain rfl : vt = .int w := ht
      refine ⟨_, (pss_cons (ps_if (PW.pt (pw_and (pt_val (pe_callB (Rd.isi (K := K) rfl) (by rfl) T.n_isinstance (by decide +kernel) (pa_cons (pe_ix (Rd.ixTK rfl) (pv 1) pe_int (fun _ _ => rfl)) (pa_cons (pe_bltn (v := .ty "tuple") (u := .type "tuple") (by rfl) T.n_tuple (by decide +kernel) rfl) pa_nil)))) (pw_and Rd.ptN (pw_and1 Rd.ptN)))) (pss_cons ps_never (pss_one ps_never)) pss_nil)
      (pss_one (ps_ret (pe_tup (pa_cons (pv 2) (pa_cons (pv 3) pa_nil)))))), ?_⟩
      try dsimp only [L2.cxOf, L2.Cx.nox, L2.Cx.wish]
      try rw [st_l_greater]
      with_reducible refine Rd.seq (Rd.ifS (Rd.and (Rd.tb (Rd.cB (Rd.cons (Rd.op (Rd.var (by walk_at "vr") (Rd.c (Rd.ixT (by walk_at "hpt") (by walk_at "vr") (Rd.cons (Rd.c ?_)))))))))))
      with_reducible refine Rd.nil ?_
      refine ⟨_, _, _, _, _, rfl, (by walk_at "clsv"), (by walk_at "tyx"), (by walk_at "kit"), ?_⟩
      with_reducible refine Rd.bl (Rd.iteF (by walk_at "bF") (Rd.iteF rfl (Rd.next (Rd.ret (Rd.tup (Rd.cons (Rd.var (by walk_at "vr") (Rd.cons (Rd.var (by walk_at "vr") (Rd.nil (Rd.laid (by walk_at "ll") ?_)))))))))))
      intro p0 np0
      exact k _ n _ _ (by walk_at "frm") (by walk_at "hp") (by walk_at "pool") (by rw [ewr]; exact L2.upd_same) n1 n2 hm gd
/-! _law_both_long -/
theorem sc_l_both_long : FnScope ["_law_scheme", "_law_n", "_law_both"] ["_law_scheme", "_law_n"] (defScope s_l_both_long) := ⟨rfl, rfl, rfl, by decide +kernel, rfl, by decide +kernel, by decide +kernel⟩
theorem st_l_both_long {v0 v1 : V} : L2.start ["_law_scheme", "_law_n", "_law_both"] [v0, v1] = [some v0, some v1, none] := rfl
abbrev sp_l_both_long (K : PySem.W.Frag) (A : Adr) : Sp := fun vs H Q _ => ∃ (p : Addr) (t : Pt) (n : Int), vs = [.ref p, .int n] ∧ IsScheme A H p t ∧ Wf t ∧ 1 ≤ n ∧ n ≤ 1000000000000000000000000000000 ∧ 1 ≤ modV t.wrap n ∧ LogOk t n ∧ 2000 < modV t.wrap n ∧ ∀ H', Same H H' → Q (.bl true) H'
theorem ok_l_both_long (T : Txt w K mg A) : FnOk P w K mg base CX0 9 A.f_l_both_long A.d_l_both_long ["_law_scheme", "_law_n"] (sp_l_both_long K A) := by
  refine T.F_l_both_long.ok sc_l_both_long (fun vs H Q E h => ?_) (fun cdv Ar outer s H vs Q E hr h => ?_)
  · obtain ⟨p, t, n, rfl, hsch, wf, n1, n2, hm, hl, m2, k⟩ := h
    rfl
  · obtain ⟨p, t, n, rfl, hsch, wf, n1, n2, hm, hl, m2, k⟩ := h
    have hu := hu_of hr
    have t_q_PART_NAMES := T.q_PART_NAMES
    have t_q_PART_WORDS_slot := T.q_PART_WORDS_slot
    have t_d_PART_WORDS_slot := T.d_PART_WORDS_slot
    have t_q_PART_WORDS_empty := T.q_PART_WORDS_empty
    have t_d_PART_WORDS_empty := T.d_PART_WORDS_empty
    have t_q_PART_WORDS_when := T.q_PART_WORDS_when
    have t_d_PART_WORDS_when := T.d_PART_WORDS_when
    have t_q_MEASURES := T.q_MEASURES
    have t_q_SIGNS := T.q_SIGNS
    have t_q_PLAIN_FULLS := T.q_PLAIN_FULLS
    have t_i_Form := T.i_Form
    have t_kt_Form_Form := T.kt_Form_Form
    have t_kt_int_Form := T.kt_int_Form
    have t_i_SizeSet := T.i_SizeSet
    have t_kt_SizeSet_SizeSet := T.kt_SizeSet_SizeSet
    have t_kt_tuple_SizeSet := T.kt_tuple_SizeSet
    have t_nf_Form_Form := T.nf_Form_Form
    have t_nf_int_Form := T.nf_int_Form
    have t_nf_SizeSet_SizeSet := T.nf_SizeSet_SizeSet
    have t_nf_tuple_SizeSet := T.nf_tuple_SizeSet
    have t_xm_NoSize_NoSize := T.xm_NoSize_NoSize
    have t_xm_NoRing_NoSize := T.xm_NoRing_NoSize
    have t_xm_NoRing_NoRing := T.xm_NoRing_NoRing
    have t_xm_NotDecided_NoSize := T.xm_NotDecided_NoSize
    have t_xm_NotDecided_NoRing := T.xm_NotDecided_NoRing
    have t_xm_NotDecided_NotDecided := T.xm_NotDecided_NotDecided
    have t_xm_NoLag_NoSize := T.xm_NoLag_NoSize
    have t_xm_NoLag_NoRing := T.xm_NoLag_NoRing
    have t_xm_NoLag_NotDecided := T.xm_NoLag_NotDecided
    have t_xm_NoLag_NoLag := T.xm_NoLag_NoLag
    have t_xm_TooLong_TooLong := T.xm_TooLong_TooLong
    have t_k_Form := T.k_Form
    have t_k_Scheme := T.k_Scheme
    have t_k_Belief := T.k_Belief
    have t_k_SizeSet := T.k_SizeSet
    refine ⟨_, (pss_cons (ps_try_only rfl rfl ⟨by rfl, by decide, .inl T.m_TooLong⟩ takes0 (fun W pn xe tk _ => (pss_cons (ps_expr (L2.pe_callS (E := WE W) (ok_right_lags T) (hr.mono (by decide)) (by rfl) T.m_right_lags T.F_right_lags.kp T.b_right_lags (fun σ => passAt tk σ) (pa_cons (pv 0) (pa_cons (pv 1) pa_nil))))
      (pss_one ps_never))) (fun ea oe cls d pn hz hf => (pss_one (ps_set (i := 2) sc_l_both_long.nd rfl (Or.inl rfl) pe_int))))
      (pss_one (ps_try_only rfl rfl ⟨by rfl, by decide, .inl T.m_TooLong⟩ takes0 (fun W pn xe tk _ => (pss_cons (ps_expr (L2.pe_callS (E := WE W) (ok_place_lags T) (hr.mono (by decide)) (by rfl) T.m_place_lags T.F_place_lags.kp T.b_place_lags (fun σ => passAt tk σ) (pa_cons (pv 0) (pa_cons (pv 1) pa_nil))))
      (pss_one ps_never))) (fun ea oe cls d pn hz hf => (pss_one (ps_ret (pe_cmpR op_eq (pv 2) pe_int (nomark _)))))))), ?_⟩
    try dsimp only [L2.cxOf, L2.Cx.nox, L2.Cx.wish]
    try rw [st_l_both_long]
    with_reducible refine Rd.seq ?_
    try dsimp only
    with_reducible refine Rd.seq (Rd.drop (Rd.callS (Rd.cons (Rd.var (by walk_at "vr") (Rd.cons (Rd.var (by walk_at "vr") (Rd.nil ?_)))))))
    refine ⟨_, _, _, rfl, (by first | exact hsch | exact hsch.same (by walk_at "frm")), wf, n1, n2, hm, hl, .inr ⟨m2, fun H1 S1 => ?_⟩⟩
    refine ⟨true, (by walk_at "exm"), fun _ ea1 nea1 => ?_, fun q => nomatch q⟩
    with_reducible refine Rd.asg (Rd.c (Rd.name ?_))
    try dsimp only [Int.reduceToNat, List.set]
    try dsimp only
    with_reducible refine Rd.seq (Rd.drop (Rd.callS (Rd.cons (Rd.var (by walk_at "vr") (Rd.cons (Rd.var (by walk_at "vr") (Rd.nil ?_)))))))
    refine ⟨_, _, _, rfl, (by first | exact hsch | exact hsch.same (by walk_at "frm")), wf, n1, n2, hm, hl, .inr ⟨m2, fun H2 S2 => ?_⟩⟩
    refine ⟨true, (by walk_at "exm"), fun _ ea2 nea2 => ?_, fun q => nomatch q⟩
    with_reducible refine Rd.ret (Rd.op (Rd.var (by walk_at "vr") (Rd.c (Rd.eqS (by walk_at "vr") ?_))))
    exact Rd.truB (decide_eq_true rfl) (k _ (by walk_at "frm"))
/-! law -/
theorem sc_law : FnScope ["_law_script", "_law_pool_here", "_law_row", "_law_n", "_law_modulus", "_law_scheme", "_law_sure", "_law_placed", "_law_k", "_law_lag", "_law_belief"] ["_law_script"] (defScope s_law) := ⟨rfl, rfl, rfl, by decide +kernel, rfl, by decide +kernel, by decide +kernel⟩
theorem st_law {v0 : V} : L2.start ["_law_script", "_law_pool_here", "_law_row", "_law_n", "_law_modulus", "_law_scheme", "_law_sure", "_law_placed", "_law_k", "_law_lag", "_law_belief"] [v0] = [some v0, none, none, none, none, none, none, none, none, none, none] := rfl
abbrev sp_law (K : PySem.W.Frag) : Sp := fun vs H Q _ => ∃ (a : Addr) (ns : List Int), vs = [.ref a] ∧ SqL K H a (ns.map V.int) ∧ ns.length ≤ 63 ∧ ∀ H', Q (.bl true) H'
theorem ok_law (T : Txt w K mg A) : FnOk P w K mg base CX0 10 A.f_law A.d_law ["_law_script"] (sp_law K) := by
  refine T.F_law.ok sc_law (fun vs H Q E h => ?_) (fun cdv Ar outer s H vs Q E hr h => ?_)
  · obtain ⟨a, ns, rfl, hS, hlen, k⟩ := h
    rfl
  · obtain ⟨a, ns, rfl, hS, hlen, k⟩ := h
    have hu := hu_of hr
    have t_q_PART_NAMES := T.q_PART_NAMES
    have t_q_PART_WORDS_slot := T.q_PART_WORDS_slot
    have t_d_PART_WORDS_slot := T.d_PART_WORDS_slot
    have t_q_PART_WORDS_empty := T.q_PART_WORDS_empty
    have t_d_PART_WORDS_empty := T.d_PART_WORDS_empty
    have t_q_PART_WORDS_when := T.q_PART_WORDS_when
    have t_d_PART_WORDS_when := T.d_PART_WORDS_when
    have t_q_MEASURES := T.q_MEASURES
    have t_q_SIGNS := T.q_SIGNS
    have t_q_PLAIN_FULLS := T.q_PLAIN_FULLS
    have t_i_Form := T.i_Form
    have t_kt_Form_Form := T.kt_Form_Form
    have t_kt_int_Form := T.kt_int_Form
    have t_i_SizeSet := T.i_SizeSet
    have t_kt_SizeSet_SizeSet := T.kt_SizeSet_SizeSet
    have t_kt_tuple_SizeSet := T.kt_tuple_SizeSet
    have t_nf_Form_Form := T.nf_Form_Form
    have t_nf_int_Form := T.nf_int_Form
    have t_nf_SizeSet_SizeSet := T.nf_SizeSet_SizeSet
    have t_nf_tuple_SizeSet := T.nf_tuple_SizeSet
    have t_xm_NoSize_NoSize := T.xm_NoSize_NoSize
    have t_xm_NoRing_NoSize := T.xm_NoRing_NoSize
    have t_xm_NoRing_NoRing := T.xm_NoRing_NoRing
    have t_xm_NotDecided_NoSize := T.xm_NotDecided_NoSize
    have t_xm_NotDecided_NoRing := T.xm_NotDecided_NoRing
    have t_xm_NotDecided_NotDecided := T.xm_NotDecided_NotDecided
    have t_xm_NoLag_NoSize := T.xm_NoLag_NoSize
    have t_xm_NoLag_NoRing := T.xm_NoLag_NoRing
    have t_xm_NoLag_NotDecided := T.xm_NoLag_NotDecided
    have t_xm_NoLag_NoLag := T.xm_NoLag_NoLag
    have t_xm_TooLong_TooLong := T.xm_TooLong_TooLong
    have t_k_Form := T.k_Form
    have t_k_Scheme := T.k_Scheme
    have t_k_Belief := T.k_Belief
    have t_k_SizeSet := T.k_SizeSet
    have e38 : (10 : Int) ^ Int.toNat 38 = 100000000000000000000000000000000000000 := by decide +kernel
    refine ⟨_, (pss_cons (ps_set (i := 1) sc_law.nd rfl (Or.inl rfl) (pe_call (ok_l_pool T) (hr.mono (by decide)) (by rfl) T.m_l_pool T.F_l_pool.kp T.b_l_pool .nil pass0 (pa_cons (pv 0) pa_nil)))
      (pss_cons (ps_asg (pe_call (ok_l_setting T) (hr.mono (by decide)) (by rfl) T.m_l_setting T.F_l_setting.kp T.b_l_setting .nil pass0 (pa_cons (pv 1) pa_nil)) (pg_tup (by rfl) (pgs_cons (pg_name (i := 2) sc_law.nd rfl (Or.inl rfl)) (pgs_cons (pg_name (i := 3) sc_law.nd rfl (Or.inl rfl)) (pgs_cons (pg_name (i := 4) sc_law.nd rfl (Or.inl rfl)) pgs_nil)))))
      (pss_cons (ps_asg (pe_call (ok_l_greater T) (hr.mono (by decide)) (by rfl) T.m_l_greater T.F_l_greater.kp T.b_l_greater .nil pass0 (pa_cons (pv 1) (pa_cons (pv 2) (pa_cons (pv 3) (pa_cons (pv 4) pa_nil))))) (pg_tup (by rfl) (pgs_cons (pg_name (i := 3) sc_law.nd rfl (Or.inl rfl)) (pgs_cons (pg_name (i := 4) sc_law.nd rfl (Or.inl rfl)) pgs_nil))))
      (pss_cons (ps_set (i := 5) sc_law.nd rfl (Or.inl rfl) (pe_call (ok_l_made T) (hr.mono (by decide)) (by rfl) T.m_l_made T.F_l_made.kp T.b_l_made .nil pass0 (pa_cons (pv 2) (pa_cons pe_str pa_nil))))
      (pss_cons (ps_if (pt_cmpR op_gt (pv 4) pe_int (nomark _)) (pss_one (ps_ret (pe_call (ok_l_both_long T) (hr.mono (by decide)) (by rfl) T.m_l_both_long T.F_l_both_long.kp T.b_l_both_long .nil pass0 (pa_cons (pv 5) (pa_cons (pv 3) pa_nil))))) pss_nil)
      (pss_cons (ps_set (i := 6) sc_law.nd rfl (Or.inl rfl) (pe_call (ok_right_lags T) (hr.mono (by decide)) (by rfl) T.m_right_lags T.F_right_lags.kp T.b_right_lags .nil Sta.passF (pa_cons (pv 5) (pa_cons (pv 3) pa_nil))))
      (pss_cons (ps_set (i := 7) sc_law.nd rfl (Or.inl rfl) (pe_call (ok_place_lags T) (hr.mono (by decide)) (by rfl) T.m_place_lags T.F_place_lags.kp T.b_place_lags .nil Sta.passF (pa_cons (pv 5) (pa_cons (pv 3) pa_nil))))
      (pss_cons (ps_if (pt_not (pt_cmpR (Own.cmp (cop := .LtE) (ok_SizeSetu__leu_ T) (hr.mono (by decide)) T.O_SizeSetu__leu__1 T.b_SizeSetu__leu_ pass0) (pv 6) (pv 7) (nomark _))) (pss_one ps_never) pss_nil)
      (pss_cons (ps_for PassesOwn.never rfl (pi_range1 (by rfl) T.n_range (pa_cons pe_int pa_nil)) (pg_name (i := 8) sc_law.nd rfl (Or.inl rfl)) (pss_cons (ps_set (i := 9) sc_law.nd rfl (Or.inl rfl) (pe_op op_sub (pe_op op_add (pe_op op_add (pe_op op_mulW (pv 4) (pe_call (ok_l_draw T) (hr.mono (by decide)) (by rfl) T.m_l_draw T.F_l_draw.kp T.b_l_draw .nil pass0 (pa_cons (pv 1) (pa_cons pe_int pa_nil)))) (pe_ix (Rd.ixTK rfl) (pe_tup (pa_cons (pv 3) (pa_cons pe_int pa_nil))) (pe_call (ok_l_draw T) (hr.mono (by decide)) (by rfl) T.m_l_draw T.F_l_draw.kp T.b_l_draw .nil pass0 (pa_cons (pv 1) (pa_cons pe_int pa_nil))) (fun _ _ => rfl))) (pe_call (ok_l_draw T) (hr.mono (by decide)) (by rfl) T.m_l_draw T.F_l_draw.kp T.b_l_draw .nil pass0 (pa_cons (pv 1) (pa_cons pe_int pa_nil)))) pe_int))
      (pss_cons (ps_if (pt_cmpR op_gt (pv 8) pe_int (nomark _)) (pss_one (ps_set (i := 9) sc_law.nd rfl (Or.inl rfl) (pe_call (ok_l_wide T) (hr.mono (by decide)) (by rfl) T.m_l_wide T.F_l_wide.kp T.b_l_wide .nil pass0 (pa_cons (pv 1) (pa_cons (pe_op op_pow pe_int pe_int) pa_nil))))) pss_nil)
      (pss_cons (ps_if (pt_cmpR op_lt (pv 9) pe_int (nomark _)) (pss_one (ps_set (i := 9) sc_law.nd rfl (Or.inl rfl) pe_int)) pss_nil)
      (pss_cons (ps_set (i := 10) sc_law.nd rfl (Or.inl rfl) (pe_call (ok_belief_of T) (hr.mono (by decide)) (by rfl) T.m_belief_of T.F_belief_of.kp T.b_belief_of .nil Sta.passF (pa_cons (pv 5) (pa_cons (pv 3) (pa_cons (pv 9) pa_nil)))))
      (pss_cons (ps_if (PW.pt (pw_or (pt_cmpR op_ne (pe_cmpR (Own.isin (ok_SizeSetu__containsu_ T) (hr.mono (by decide)) T.O_SizeSetu__containsu__1 T.b_SizeSetu__containsu_ pass0) (pv 9) (pv 6) (by with_unfolding_all rfl)) (pe_callTy (Own.boolOwn (ok_Beliefu__boolu_ T) (hr.mono (by decide)) T.O_Beliefu__boolu__1 T.b_Beliefu__boolu_ pass0) (by rfl) T.n_bool (by decide +kernel) (pa_cons (pv 10) pa_nil)) (nomark _)) (pw_or1 (pt_cmpR op_ne (pe_cmpR (Own.isin (ok_SizeSetu__containsu_ T) (hr.mono (by decide)) T.O_SizeSetu__containsu__1 T.b_SizeSetu__containsu_ pass0) (pv 9) (pv 7) (by with_unfolding_all rfl)) (pe_prop (pv 10) T.k_Belief T.R_Belief_place_right (ok_Belief_place_right T) (hr.mono (by decide)) T.b_Belief_place_right .nil pass0 rfl) (nomark _))))) (pss_one ps_never) pss_nil)
      (pss_one (ps_if (PW.pt (pw_and (pt_cmpR op_lt (pv 9) (pv 4) (nomark _)) (pw_and1 (pt_not (PW.pt (pw_and (pt_cmpR (Own.isin (ok_SizeSetu__containsu_ T) (hr.mono (by decide)) T.O_SizeSetu__containsu__1 T.b_SizeSetu__containsu_ pass0) (pv 9) (pv 6) (by with_unfolding_all rfl)) (pw_and1 (pt_cmpR (Own.isin (ok_SizeSetu__containsu_ T) (hr.mono (by decide)) T.O_SizeSetu__containsu__1 T.b_SizeSetu__containsu_ pass0) (pv 9) (pv 7) (by with_unfolding_all rfl))))))))) (pss_one ps_never) pss_nil))))))))
      (pss_one (ps_ret pe_bl))))))))))), ?_⟩
    try dsimp only [L2.cxOf, L2.Cx.nox, L2.Cx.wish]
    try rw [st_law]
    with_reducible refine Rd.seq (Rd.asg (Rd.call (Rd.cons (Rd.var (by walk_at "vr") (Rd.nil ?_)))))
    refine ⟨_, _, rfl, (by walk_at "hpl"), (by walk_at "sc"), fun po o1 H1 S1 np1 r1 s1 => ?_⟩
    with_reducible refine Rd.name ?_
    try dsimp only [Int.reduceToNat, List.set]
    with_reducible refine Rd.seq (Rd.asg (Rd.call (Rd.cons (Rd.var (by walk_at "vr") (Rd.nil ?_)))))
    refine ⟨_, _, rfl, (by walk_at "hp"), (by walk_at "pool"), fun q2 pr vt vf t2 n2 M2 o2 H2 F2 r2 s2 hq2 hr2 em2 ht2 hf2 wf2 na nb ma mb gd al => ?_⟩
    subst em2
    refine Rd.gtup (by walk_at "hpt") rfl ?_
    with_reducible refine Rd.gcons (Rd.name (Rd.gcons (Rd.name (Rd.gcons (Rd.name (Rd.gnil (Rd.seq (Rd.asg (Rd.call (Rd.cons (Rd.var (by walk_at "vr") ?_)))))))))))
    with_reducible refine Rd.cons (Rd.var (by walk_at "vr") (Rd.cons (Rd.var (by walk_at "vr") (Rd.cons (Rd.var (by walk_at "vr") (Rd.nil ?_))))))
    refine ⟨_, _, _, _, _, _, _, rfl, (by walk_at "hp"), (by walk_at "pool"), (by walk_at "hp"), ht2.same (by walk_at "frm"), wf2.w, na, nb, ma, gd, fun qG nG oG HG FG rG sG hqG g1 g2 g3 g4 => ?_⟩
    refine Rd.gtup (by walk_at "hpt") rfl ?_
    with_reducible refine Rd.gcons (Rd.name (Rd.gcons (Rd.name (Rd.gnil ?_))))
    have npr := s2.ntup r2 hr2
    refine Rd.comp (fun Hx => Same H Hx ∧ Hx pr = some (.tup [vt, .str t2.slot, .str t2.empty, vf]) ∧ IsTurn Hx vt t2.wrap ∧ IsFill Hx vf t2.full ∧ Hx po = some oG ∧ PoolO Hx po oG) ⟨by walk_at "frm", (by walk_at "hp"), ht2.keep (Frm.tups FG r2 s2), hf2.keep (Frm.tups FG r2 s2), (by walk_at "hp"), (by walk_at "pool")⟩ (fun Ha ⟨Sa, ta, ua, fa, ra, sa⟩ => ?_)
    with_reducible refine Rd.seq (Rd.asg (Rd.call (Rd.cons (Rd.var (by walk_at "vr") (Rd.cons (Rd.c (Rd.nil ?_)))))))
    refine ⟨_, (⟨t2.wrap, t2.slot, t2.empty, t2.full, "over"⟩ : Pt), rfl, ⟨_, _, _, rfl, (by walk_at "hp"), ua.same (by walk_at "frm"), fa.same (by walk_at "frm")⟩, (wf2.wen (show ("over" : Str) ∈ wWhen by decide +kernel)), fun ps HM SM nps iM => ?_⟩
    have lok : LogOk (⟨t2.wrap, t2.slot, t2.empty, t2.full, "over"⟩ : Pt) nG := ⟨rfl, g4⟩
    with_reducible refine Rd.name ?_
    try dsimp only [Int.reduceToNat, List.set]
    refine Rd.comp (fun Hx => Same H Hx ∧ IsScheme A Hx ps (⟨t2.wrap, t2.slot, t2.empty, t2.full, "over"⟩ : Pt) ∧ Hx po = some oG ∧ PoolO Hx po oG) ⟨by walk_at "frm", iM, (by walk_at "hp"), (by walk_at "pool")⟩ (fun Hy ⟨Sy, iy, ry, sy⟩ => ?_)
    with_reducible refine Rd.seq (Rd.ifS (Rd.test (Rd.op (Rd.var (by walk_at "vr") (Rd.c (Rd.i0 (Rd.bl ?_)))))))
    refine Rd.ite (fun h0 => ?_) (fun h0 => ?_)
    · try simp only [decide_eq_true_eq, Bool.not_eq_true', decide_eq_false_iff_not, Bool.not_eq_true, Bool.not_eq_eq_eq_not, Bool.not_true, Bool.not_false] at h0
      with_reducible refine Rd.ret (Rd.call (Rd.cons (Rd.var (by walk_at "vr") (Rd.cons (Rd.var (by walk_at "vr") (Rd.nil ?_))))))
      refine ⟨_, (⟨t2.wrap, t2.slot, t2.empty, t2.full, "over"⟩ : Pt), _, rfl, (iy.same (by walk_at "frm")), (wf2.wen (show ("over" : Str) ∈ wWhen by decide +kernel)), g1, g2, g3, lok, (by show 2000 < modV t2.wrap nG; omega), fun HB SB => ?_⟩
      exact k _
    · try simp only [decide_eq_true_eq, Bool.not_eq_true', decide_eq_false_iff_not, Bool.not_eq_true, Bool.not_eq_eq_eq_not, Bool.not_true, Bool.not_false, Int.not_lt, Int.not_le, Decidable.not_not] at h0
      with_reducible refine Rd.next (Rd.seq (Rd.asg (Rd.call (Rd.cons (Rd.var (by walk_at "vr") (Rd.cons (Rd.var (by walk_at "vr") (Rd.nil ?_))))))))
      refine ⟨_, (⟨t2.wrap, t2.slot, t2.empty, t2.full, "over"⟩ : Pt), _, rfl, (iy.same (by walk_at "frm")), (wf2.wen (show ("over" : Str) ∈ wWhen by decide +kernel)), g1, g2, g3, lok, .inl ⟨(by show modV t2.wrap nG ≤ 2000; omega), fun sS tS HS SS nS cS kS => ?_⟩⟩
      obtain ⟨dxS, fsS, rawS⟩ := kS.1.raw
      have nSp : sS ≠ po := ne_none' nS (by walk_at "hp")
      have kpS : SetKept A po HS sS (rowsR (modV t2.wrap nG)) tS := kS.2 po _ (by walk_at "hp") nSp.symm
      with_reducible refine Rd.name ?_
      try dsimp only [Int.reduceToNat, List.set]
      with_reducible refine Rd.seq (Rd.asg (Rd.call (Rd.cons (Rd.var (by walk_at "vr") (Rd.cons (Rd.var (by walk_at "vr") (Rd.nil ?_)))))))
      refine ⟨_, (⟨t2.wrap, t2.slot, t2.empty, t2.full, "over"⟩ : Pt), _, rfl, (iy.same (by walk_at "frm")), (wf2.wen (show ("over" : Str) ∈ wWhen by decide +kernel)), g1, g2, g3, lok, .inl ⟨(by show modV t2.wrap nG ≤ 2000; omega), fun sP tP HP_ SP nP cP kP => ?_⟩⟩
      obtain ⟨dxP, fsP, rawP⟩ := kP.1.raw
      have nPp : sP ≠ po := ne_none' nP (by walk_at "hp")
      have kpP : SetKept A po HP_ sP (rowsP nG (modV t2.wrap nG)) tP := kP.2 po _ (by walk_at "hp") nPp.symm
      have okS := rowsR_ok (M := modV t2.wrap nG) g3
      have okP := rowsP_ok (M := modV t2.wrap nG) g1 g3
      have a1 := cS.k.pos
      have a2 : tS.p ≤ 1 := cS.kp
      have a3 := cP.k.pos
      have a4 : tP.p ≤ modV t2.wrap nG := cP.kp
      have a5 := cS.s1
      have a6 : tS.s ≤ modV t2.wrap nG := cS.s2
      have a7 := cP.s1
      have a8 : tP.s ≤ modV t2.wrap nG := cP.s2
      have elc : Lcm.lcmI tS.p tP.p = tP.p := by rw [show tS.p = 1 by omega]; exact Lcm.lcm_one a3
      with_reducible refine Rd.name ?_
      try dsimp only [Int.reduceToNat, List.set]
      with_reducible refine Rd.seq (Rd.ifS (Rd.not (Rd.test (Rd.op (Rd.var (by walk_at "vr") (Rd.var (by walk_at "vr") (Own.cmp2 (by walk_at "hp") (by walk_at "tyx") (by walk_at "nf") ?_)))))))
      refine ⟨_, _, _, _, _, _, rfl, (kpS.at (by walk_at "frm")), (kpP.at (by walk_at "frm")), cS, cP, okS, okP, (by omega), (by omega), (by omega), (by omega), (by omega), (by omega), (by omega), (by omega), (by rw [elc]; omega), fun bL HL SL hbL => ?_⟩
      obtain rfl : bL = true := hbL.mpr (fun m m1 _ hm => by rw [hasR m1] at hm; rw [hasP g3 m1, hm]; rfl)
      with_reducible refine Rd.bl (Rd.iteF (by walk_at "bF") (Rd.next (Rd.seq ?_)))
      refine Rd.comp (fun Hx => Same H Hx ∧ IsScheme A Hx ps (⟨t2.wrap, t2.slot, t2.empty, t2.full, "over"⟩ : Pt) ∧ Hx po = some oG ∧ PoolO Hx po oG ∧ SetKept A po Hx sS (rowsR (modV t2.wrap nG)) tS ∧ SetKept A po Hx sP (rowsP nG (modV t2.wrap nG)) tP ∧ Hx sS = some (.ins A.c_SizeSet dxS fsS) ∧ Hx sP = some (.ins A.c_SizeSet dxP fsP)) ⟨by walk_at "frm", iy.same (by walk_at "frm"), (by walk_at "hp"), (by walk_at "pool"), (fun Hx F => kpS.at (by walk_at "frm")), (fun Hx F => kpP.at (by walk_at "frm")), (by walk_at "hp"), (by walk_at "hp")⟩ (fun HZ ⟨Sz, iz, rz, sz, kz1, kz2, rw1, rw2⟩ => ?_)
      with_reducible refine Rd.fr (Rd.rng1 (Rd.cons (Rd.c (Rd.nil (⟨_, rfl, (by walk_at "sc"), (by walk_at "sc"), ?_⟩)))))
      refine for_range (lo := 0) (fun (_ : Nat) (σ : L2.St) (H' : Hp) => ∃ (v_k v_lag v_belief : Option V) (oo : HO), σ = [some (.ref a), some (.ref po), some (.ref pr), some (.int nG), some (.int (modV t2.wrap nG)), some (.ref ps), some (.ref sS), some (.ref sP), v_k, v_lag, v_belief] ∧ Frm po HZ H' ∧ H' po = some oo ∧ PoolO H' po oo) ⟨_, _, _, _, rfl, (fun _ _ h _ => h), rz, sz⟩ (fun i σ H0 hi ⟨v_k, v_lag, v_belief, oo, es, F0, r0, s0⟩ => ?_) (fun σ H0 ⟨v_k, v_lag, v_belief, oo, es, F0, r0, s0⟩ => ?_)
      · subst es
        have nM : nG ≤ modV t2.wrap nG := n_le_M (t := (⟨t2.wrap, t2.slot, t2.empty, t2.full, "over"⟩ : Pt)) lok g1 g3
        with_reducible refine Rd.name (Rd.seq (Rd.asg (Rd.op (Rd.op (Rd.op (Rd.op (Rd.var (by walk_at "vr") (Rd.call (Rd.cons (Rd.var (by walk_at "vr") (Rd.cons ?_)))))))))))
        with_reducible refine Rd.c (Rd.nil ?_)
        refine ⟨_, _, _, rfl, (by walk_at "hp"), (by walk_at "pool"), (by walk_at "sc"), (by walk_at "sc"), fun dA oA dAa dAb sA => ?_⟩
        have m5 := mod_le5 (e := 0) (f := 0) g3 (by omega) dAa dAb
        with_reducible refine Rd.iC (by walk_at "scm") (Rd.op (Rd.tup (Rd.cons (Rd.var (by walk_at "vr") (Rd.cons (Rd.c (Rd.nil (Rd.laid (by walk_at "ll") ?_))))))))
        intro p0 np0
        with_reducible refine Rd.call (Rd.cons (Rd.var (by walk_at "vr") (Rd.cons (Rd.c (Rd.nil ?_)))))
        refine ⟨_, _, _, rfl, (by walk_at "hp"), (by walk_at "pool"), (by walk_at "sc"), (by walk_at "sc"), fun dB oB dBa dBb sB => ?_⟩
        refine Rd.pickT (fun v => ∃ i : Int, v = .int i ∧ 0 ≤ i ∧ i ≤ 2000) (by walk_at "hpt") (by intro v hv; simp only [List.mem_cons, List.not_mem_nil, or_false] at hv; rcases hv with rfl | rfl <;> exact ⟨_, rfl, (by omega), (by omega)⟩) (by omega) (by show (_ : Int) < ((2 : Nat) : Int); omega) (fun v_i hv_i => ?_)
        obtain ⟨ib, rfl, ib0, ib1⟩ := hv_i
        with_reducible refine Rd.i0 (Rd.call (Rd.cons (Rd.var (by walk_at "vr") (Rd.cons (Rd.c (Rd.nil ?_))))))
        refine ⟨_, _, _, rfl, (by walk_at "hp"), (by walk_at "pool"), (by walk_at "sc"), (by walk_at "sc"), fun dC oC dCa dCb sC => ?_⟩
        with_reducible refine Rd.i0 (Rd.c (Rd.i0 (Rd.name ?_)))
        try dsimp only [Int.reduceToNat, List.set]
        with_reducible refine Rd.seq ?_
        refine Rd.ifJ (fun σ' H' => ∃ (v_k v_belief : Option V) (l : Int) (oo : HO), σ' = [some (.ref a), some (.ref po), some (.ref pr), some (.int nG), some (.int (modV t2.wrap nG)), some (.ref ps), some (.ref sS), some (.ref sP), v_k, some (.int l), v_belief] ∧ Frm po HZ H' ∧ H' po = some oo ∧ PoolO H' po oo ∧ -1 ≤ l ∧ l ≤ 100000000000000000000000000000000000000) ?_ ?_
        · intro key
          with_reducible refine Rd.ifS (Rd.test (Rd.op (Rd.var (by walk_at "vr") (Rd.c (Rd.i0 (Rd.bl ?_))))))
          refine Rd.ite (fun h2 => ?_) (fun h2 => ?_)
          · try simp only [decide_eq_true_eq, Bool.not_eq_true', decide_eq_false_iff_not, Bool.not_eq_true, Bool.not_eq_eq_eq_not, Bool.not_true, Bool.not_false] at h2
            with_reducible refine Rd.asg (Rd.call (Rd.cons (Rd.var (by walk_at "vr") (Rd.cons (Rd.op (Rd.c (Rd.c (Rd.iC (by walk_at "scp") (Rd.nil ?_)))))))))
            refine ⟨_, _, _, rfl, (by walk_at "hp"), (by walk_at "pool"), (by first | omega | decide), (by first | omega | decide), fun dW oW dWa dWb sW => ?_⟩
            rw [e38] at dWb
            with_reducible refine Rd.name ?_
            try dsimp only [Int.reduceToNat, List.set]
            exact key _ _ ⟨_, _, _, _, rfl, (by walk_at "frm"), (by walk_at "hp"), (by walk_at "pool"), (by omega), (by omega)⟩
          · try simp only [decide_eq_true_eq, Bool.not_eq_true', decide_eq_false_iff_not, Bool.not_eq_true, Bool.not_eq_eq_eq_not, Bool.not_true, Bool.not_false, Int.not_lt, Int.not_le, Decidable.not_not] at h2
            with_reducible refine Rd.next ?_
            exact key _ _ ⟨_, _, _, _, rfl, (by walk_at "frm"), (by walk_at "hp"), (by walk_at "pool"), (by omega), (by omega)⟩
        · rintro σ' Hc ⟨v_k, v_belief, l, oc1, rfl, Fc, c1, c2, l0, l1⟩
          with_reducible refine Rd.seq ?_
          refine Rd.ifJ (fun σ' H' => ∃ (v_k v_belief : Option V) (l : Int) (oo : HO), σ' = [some (.ref a), some (.ref po), some (.ref pr), some (.int nG), some (.int (modV t2.wrap nG)), some (.ref ps), some (.ref sS), some (.ref sP), v_k, some (.int l), v_belief] ∧ Frm po HZ H' ∧ H' po = some oo ∧ PoolO H' po oo ∧ 1 ≤ l ∧ l ≤ 100000000000000000000000000000000000000) ?_ ?_
          · intro key
            with_reducible refine Rd.ifS (Rd.test (Rd.op (Rd.var (by walk_at "vr") (Rd.c (Rd.i0 (Rd.bl ?_))))))
            refine Rd.ite (fun h3 => ?_) (fun h3 => ?_)
            · try simp only [decide_eq_true_eq, Bool.not_eq_true', decide_eq_false_iff_not, Bool.not_eq_true, Bool.not_eq_eq_eq_not, Bool.not_true, Bool.not_false] at h3
              with_reducible refine Rd.asg (Rd.c (Rd.name ?_))
              try dsimp only [Int.reduceToNat, List.set]
              exact key _ _ ⟨_, _, _, _, rfl, (by walk_at "frm"), (by walk_at "hp"), (by walk_at "pool"), (by omega), (by omega)⟩
            · try simp only [decide_eq_true_eq, Bool.not_eq_true', decide_eq_false_iff_not, Bool.not_eq_true, Bool.not_eq_eq_eq_not, Bool.not_true, Bool.not_false, Int.not_lt, Int.not_le, Decidable.not_not] at h3
              with_reducible refine Rd.next ?_
              exact key _ _ ⟨_, _, _, _, rfl, (by walk_at "frm"), (by walk_at "hp"), (by walk_at "pool"), (by omega), (by omega)⟩
          · rintro σ' Hc ⟨v_k, v_belief, l, oc2, rfl, Fc, c1, c2, l0, l1⟩
            with_reducible refine Rd.seq (Rd.asg (Rd.call (Rd.cons (Rd.var (by walk_at "vr") (Rd.cons (Rd.var (by walk_at "vr") (Rd.cons (Rd.var (by walk_at "vr") (Rd.nil ?_)))))))))
            refine ⟨_, (⟨t2.wrap, t2.slot, t2.empty, t2.full, "over"⟩ : Pt), _, _, rfl, (iz.keepN (Frm.plains (by walk_at "frm") rz sz)), (wf2.wen (show ("over" : Str) ∈ wWhen by decide +kernel)), .inr ⟨_, rfl, g1, g2, .inr ⟨g3, .inr ⟨lok, .inl ⟨_, rfl, (by omega), (by omega), fun qB HB SB ib => ?_⟩⟩⟩⟩⟩
            obtain ⟨dxB, hB⟩ := ib
            with_reducible refine Rd.name ?_
            try dsimp only [Int.reduceToNat, List.set]
            with_reducible refine Rd.seq (Rd.ifS (Rd.or (Rd.test (Rd.op (Rd.op (Rd.var (by walk_at "vr") (Rd.var (by walk_at "vr") ?_)))))))
            refine ⟨_, _, _, rfl, (by walk_at "hp"), ?_⟩
            refine ⟨_, _, _, _, rfl, (kz1.at (by walk_at "frm")), cS, okS, .inl ⟨_, rfl, ⟨_, rfl, ?_⟩⟩⟩
            rw [inR l0]
            with_reducible refine Rd.cB (Rd.cons (Rd.var (by walk_at "vr") (Rd.nil ?_)))
            refine ⟨_, _, _, rfl, (by walk_at "hp"), ?_⟩
            refine ⟨_, _, _, _, _, rfl, (by walk_at "hp"), (by walk_at "sc"), (by walk_at "sc"), ⟨_, rfl, ?_⟩⟩
            with_reducible refine Rd.neS (by walk_at "vr") (Rd.bl (Rd.iteF (by walk_at "bF") (Rd.test (Rd.op (Rd.op (Rd.var (by walk_at "vr") (Rd.var (by walk_at "vr") ?_)))))))
            refine ⟨_, _, _, rfl, (by walk_at "hp"), ?_⟩
            refine ⟨_, _, _, _, rfl, (kz2.at (by walk_at "frm")), cP, okP, .inl ⟨_, rfl, ⟨_, rfl, ?_⟩⟩⟩
            rw [inP g3 l0]
            with_reducible refine Rd.prop (Rd.var (by walk_at "vr") (⟨_, _, _, rfl, (by walk_at "hp"), ?_⟩))
            refine ⟨_, _, _, _, _, rfl, (by walk_at "hp"), (by walk_at "sc"), (by walk_at "sc"), ?_⟩
            with_reducible refine Rd.neS (by walk_at "vr") (Rd.bl (Rd.iteF (by walk_at "bF") (Rd.next (Rd.ifS (Rd.and (Rd.test (Rd.op (Rd.var (by walk_at "vr") (Rd.var (by walk_at "vr") (Rd.i0 (Rd.bl ?_)))))))))))
            refine Rd.ite (fun h6 => ?_) (fun h6 => ?_)
            · try simp only [decide_eq_true_eq, Bool.not_eq_true', decide_eq_false_iff_not, Bool.not_eq_true, Bool.not_eq_eq_eq_not, Bool.not_true, Bool.not_false] at h6
              with_reducible refine Rd.not (Rd.and (Rd.test (Rd.op (Rd.var (by walk_at "vr") (Rd.var (by walk_at "vr") ?_)))))
              refine ⟨_, _, _, rfl, (by walk_at "hp"), ?_⟩
              refine ⟨_, _, _, _, rfl, (kz1.at (by walk_at "frm")), cS, okS, .inl ⟨_, rfl, ⟨_, rfl, ?_⟩⟩⟩
              rw [inR l0]
              with_reducible refine Rd.bl (Rd.iteT (by walk_at "bT") (Rd.test (Rd.op (Rd.var (by walk_at "vr") (Rd.var (by walk_at "vr") ?_)))))
              refine ⟨_, _, _, rfl, (by walk_at "hp"), ?_⟩
              refine ⟨_, _, _, _, rfl, (kz2.at (by walk_at "frm")), cP, okP, .inl ⟨_, rfl, ⟨_, rfl, ?_⟩⟩⟩
              rw [inP g3 l0]
              with_reducible refine Rd.bl (Rd.iteF (by walk_at "bF") (Rd.next ?_))
              exact ⟨_, _, _, _, rfl, (by walk_at "frm"), (by walk_at "hp"), (by walk_at "pool")⟩
            · try simp only [decide_eq_true_eq, Bool.not_eq_true', decide_eq_false_iff_not, Bool.not_eq_true, Bool.not_eq_eq_eq_not, Bool.not_true, Bool.not_false, Int.not_lt, Int.not_le, Decidable.not_not] at h6
              with_reducible refine Rd.iteF rfl (Rd.next ?_)
              exact ⟨_, _, _, _, rfl, (by walk_at "frm"), (by walk_at "hp"), (by walk_at "pool")⟩
      · subst es
        with_reducible refine Rd.ret (Rd.c ?_)
        exact k _
end
theorem all_mk {l : PySem.W.OpenLaw} {w : World} {K : PySem.W.Frag} {h : Heap} {mg : Str → Option Value} {fa f_has_outside f_is_whole f_is_whole_from f_is_word_of f_is_size f_check_size f_is_ascending f_check_parts f_least_start f_marks_of f_shortest f_SizeSetu__initu_ f_SizeSet_start f_SizeSet_period f_SizeSetu__containsu_ f_common_parts f_SizeSetu__leu_ f_Formu__initu_ f_form_at f_Scheme_wrap f_wrap_at f_modulus_of f_Beliefu__initu_ f_Belief_believed f_Belief_number_right f_Belief_place_right f_Beliefu__boolu_ f_Scheme_slot f_Scheme_when f_log_modulus f_check_lag f_belief_of f_short_modulus f_right_lags f_place_lags f_is_small_form f_is_full f_is_wrap f_is_part f_first_wrong f_Schemeu__initu_ f_l_mixed f_l_pool f_l_draw f_l_wide f_l_made f_l_power f_l_setting f_l_greater f_l_both_long f_law c_Form c_Scheme c_Belief c_RingError c_SizeSet c_NoSize c_NoRing c_NotDecided c_NoLag c_TooLong p_SizeSet_start p_SizeSet_period p_Scheme_wrap p_Belief_believed p_Belief_number_right p_Belief_place_right p_Scheme_slot p_Scheme_when : Addr} (X : K.In h) (G : h.Ns mainGlobals mg) (hfa : mg "law" = some (.ref fa))
    {fd_has_outside : FuncData}
    {fd_is_whole : FuncData}
    {fd_is_whole_from : FuncData}
    {fd_is_word_of : FuncData}
    {fd_is_size : FuncData}
    {fd_check_size : FuncData}
    {fd_is_ascending : FuncData}
    {fd_check_parts : FuncData}
    {fd_least_start : FuncData}
    {fd_marks_of : FuncData}
    {fd_shortest : FuncData}
    {fd_SizeSetu__initu_ : FuncData}
    {fd_SizeSet_start : FuncData}
    {fd_SizeSet_period : FuncData}
    {fd_SizeSetu__containsu_ : FuncData}
    {fd_common_parts : FuncData}
    {fd_SizeSetu__leu_ : FuncData}
    {fd_Formu__initu_ : FuncData}
    {fd_form_at : FuncData}
    {fd_Scheme_wrap : FuncData}
    {fd_wrap_at : FuncData}
    {fd_modulus_of : FuncData}
    {fd_Beliefu__initu_ : FuncData}
    {fd_Belief_believed : FuncData}
    {fd_Belief_number_right : FuncData}
    {fd_Belief_place_right : FuncData}
    {fd_Beliefu__boolu_ : FuncData}
    {fd_Scheme_slot : FuncData}
    {fd_Scheme_when : FuncData}
    {fd_log_modulus : FuncData}
    {fd_check_lag : FuncData}
    {fd_belief_of : FuncData}
    {fd_short_modulus : FuncData}
    {fd_right_lags : FuncData}
    {fd_place_lags : FuncData}
    {fd_is_small_form : FuncData}
    {fd_is_full : FuncData}
    {fd_is_wrap : FuncData}
    {fd_is_part : FuncData}
    {fd_first_wrong : FuncData}
    {fd_Schemeu__initu_ : FuncData}
    {fd_l_mixed : FuncData}
    {fd_l_pool : FuncData}
    {fd_l_draw : FuncData}
    {fd_l_wide : FuncData}
    {fd_l_made : FuncData}
    {fd_l_power : FuncData}
    {fd_l_setting : FuncData}
    {fd_l_greater : FuncData}
    {fd_l_both_long : FuncData}
    {fd_law : FuncData}
    {t_GREATEST_SIZE : Tok}
    {t_PART_NAMES : Addr}
    {t_PART_WORDS : Addr}
    {t_PART_WORDS_slot : Addr}
    {t_PART_WORDS_empty : Addr}
    {t_PART_WORDS_when : Addr}
    {t_MEASURES : Addr}
    {t_SIGNS : Addr}
    {t_PLAIN_FULLS : Addr}
    {t_GREATEST_SLOPE : Tok}
    {t_GREATEST_BASE : Tok}
    {t_GREATEST_WIDTH : Tok}
    {t_GREATEST_LAG : Tok}
    {t_GREATEST_START : Tok}
    {t_GREATEST_PERIOD : Tok}
    {t_GREATEST_TOLD_MODULUS : Tok}
    {es_PART_WORDS : Array DictEntry}
    {nd_PART_WORDS : Nat}
    {rs_SizeSet_start : List Value}
    {rs_SizeSet_period : List Value}
    {rs_Scheme_wrap : List Value}
    {rs_Belief_believed : List Value}
    {rs_Belief_number_right : List Value}
    {rs_Belief_place_right : List Value}
    {rs_Scheme_slot : List Value}
    {rs_Scheme_when : List Value}
    (h_n_abs : PySem.W.nsIn K mainGlobals "abs" = some none)
    (h_n_all : PySem.W.nsIn K mainGlobals "all" = some none)
    (h_n_bool : PySem.W.nsIn K mainGlobals "bool" = some none)
    (h_n_int : PySem.W.nsIn K mainGlobals "int" = some none)
    (h_n_isinstance : PySem.W.nsIn K mainGlobals "isinstance" = some none)
    (h_n_len : PySem.W.nsIn K mainGlobals "len" = some none)
    (h_n_list : PySem.W.nsIn K mainGlobals "list" = some none)
    (h_n_max : PySem.W.nsIn K mainGlobals "max" = some none)
    (h_n_min : PySem.W.nsIn K mainGlobals "min" = some none)
    (h_n_range : PySem.W.nsIn K mainGlobals "range" = some none)
    (h_n_str : PySem.W.nsIn K mainGlobals "str" = some none)
    (h_n_tuple : PySem.W.nsIn K mainGlobals "tuple" = some none)
    (h_m_GREATEST_SIZE : PySem.W.nsIn K mainGlobals "GREATEST_SIZE" = some (some (.int (1000000000000000000000000000000) t_GREATEST_SIZE)))
    (h_m_PART_NAMES : PySem.W.nsIn K mainGlobals "PART_NAMES" = some (some (.ref t_PART_NAMES)))
    (h_m_PART_WORDS : PySem.W.nsIn K mainGlobals "PART_WORDS" = some (some (.ref t_PART_WORDS)))
    (h_m_MEASURES : PySem.W.nsIn K mainGlobals "MEASURES" = some (some (.ref t_MEASURES)))
    (h_m_SIGNS : PySem.W.nsIn K mainGlobals "SIGNS" = some (some (.ref t_SIGNS)))
    (h_m_PLAIN_FULLS : PySem.W.nsIn K mainGlobals "PLAIN_FULLS" = some (some (.ref t_PLAIN_FULLS)))
    (h_m_GREATEST_SLOPE : PySem.W.nsIn K mainGlobals "GREATEST_SLOPE" = some (some (.int (4) t_GREATEST_SLOPE)))
    (h_m_GREATEST_BASE : PySem.W.nsIn K mainGlobals "GREATEST_BASE" = some (some (.int (20) t_GREATEST_BASE)))
    (h_m_GREATEST_WIDTH : PySem.W.nsIn K mainGlobals "GREATEST_WIDTH" = some (some (.int (100) t_GREATEST_WIDTH)))
    (h_m_GREATEST_LAG : PySem.W.nsIn K mainGlobals "GREATEST_LAG" = some (some (.int (10000000000000000000000000000000000000000) t_GREATEST_LAG)))
    (h_m_GREATEST_START : PySem.W.nsIn K mainGlobals "GREATEST_START" = some (some (.int (20000) t_GREATEST_START)))
    (h_m_GREATEST_PERIOD : PySem.W.nsIn K mainGlobals "GREATEST_PERIOD" = some (some (.int (5000) t_GREATEST_PERIOD)))
    (h_m_GREATEST_TOLD_MODULUS : PySem.W.nsIn K mainGlobals "GREATEST_TOLD_MODULUS" = some (some (.int (2000) t_GREATEST_TOLD_MODULUS)))
    (h_m_lcm : PySem.W.nsIn K mainGlobals "lcm" = some (some (.builtin "math.lcm")))
    (h_m_NoSize : PySem.W.nsIn K mainGlobals "NoSize" = some (some (.ref c_NoSize)))
    (h_m_NoRing : PySem.W.nsIn K mainGlobals "NoRing" = some (some (.ref c_NoRing)))
    (h_m_NotDecided : PySem.W.nsIn K mainGlobals "NotDecided" = some (some (.ref c_NotDecided)))
    (h_m_NoLag : PySem.W.nsIn K mainGlobals "NoLag" = some (some (.ref c_NoLag)))
    (h_m_TooLong : PySem.W.nsIn K mainGlobals "TooLong" = some (some (.ref c_TooLong)))
    (h_m_Form : PySem.W.nsIn K mainGlobals "Form" = some (some (.ref c_Form)))
    (h_n_Form_slope : PySem.W.findIn K (.ref c_Form) "slope" = some none)
    (h_n_Form_base : PySem.W.findIn K (.ref c_Form) "base" = some none)
    (h_m_Scheme : PySem.W.nsIn K mainGlobals "Scheme" = some (some (.ref c_Scheme)))
    (h_n_Scheme_parts : PySem.W.findIn K (.ref c_Scheme) "_parts" = some none)
    (h_m_Belief : PySem.W.nsIn K mainGlobals "Belief" = some (some (.ref c_Belief)))
    (h_n_Belief_lag : PySem.W.findIn K (.ref c_Belief) "_lag" = some none)
    (h_n_Belief_modulus : PySem.W.findIn K (.ref c_Belief) "_modulus" = some none)
    (h_n_Belief_n : PySem.W.findIn K (.ref c_Belief) "_n" = some none)
    (h_m_RingError : PySem.W.nsIn K mainGlobals "RingError" = some (some (.ref c_RingError)))
    (h_m_SizeSet : PySem.W.nsIn K mainGlobals "SizeSet" = some (some (.ref c_SizeSet)))
    (h_n_SizeSet_period : PySem.W.findIn K (.ref c_SizeSet) "_period" = some none)
    (h_n_SizeSet_start : PySem.W.findIn K (.ref c_SizeSet) "_start" = some none)
    (h_n_SizeSet_early : PySem.W.findIn K (.ref c_SizeSet) "_early" = some none)
    (h_n_SizeSet_rests : PySem.W.findIn K (.ref c_SizeSet) "_rests" = some none)
    (h_n_SizeSet_early_marks : PySem.W.findIn K (.ref c_SizeSet) "_early_marks" = some none)
    (h_n_SizeSet_rest_marks : PySem.W.findIn K (.ref c_SizeSet) "_rest_marks" = some none)
    (h_m_has_outside : PySem.W.nsIn K mainGlobals "has_outside" = some (some (.ref f_has_outside)))
    (h_m_is_whole : PySem.W.nsIn K mainGlobals "is_whole" = some (some (.ref f_is_whole)))
    (h_m_is_whole_from : PySem.W.nsIn K mainGlobals "is_whole_from" = some (some (.ref f_is_whole_from)))
    (h_m_is_word_of : PySem.W.nsIn K mainGlobals "is_word_of" = some (some (.ref f_is_word_of)))
    (h_m_is_size : PySem.W.nsIn K mainGlobals "is_size" = some (some (.ref f_is_size)))
    (h_m_check_size : PySem.W.nsIn K mainGlobals "check_size" = some (some (.ref f_check_size)))
    (h_m_is_ascending : PySem.W.nsIn K mainGlobals "is_ascending" = some (some (.ref f_is_ascending)))
    (h_m_check_parts : PySem.W.nsIn K mainGlobals "check_parts" = some (some (.ref f_check_parts)))
    (h_m_least_start : PySem.W.nsIn K mainGlobals "least_start" = some (some (.ref f_least_start)))
    (h_m_marks_of : PySem.W.nsIn K mainGlobals "marks_of" = some (some (.ref f_marks_of)))
    (h_m_shortest : PySem.W.nsIn K mainGlobals "shortest" = some (some (.ref f_shortest)))
    (h_m_common_parts : PySem.W.nsIn K mainGlobals "common_parts" = some (some (.ref f_common_parts)))
    (h_m_form_at : PySem.W.nsIn K mainGlobals "form_at" = some (some (.ref f_form_at)))
    (h_m_wrap_at : PySem.W.nsIn K mainGlobals "wrap_at" = some (some (.ref f_wrap_at)))
    (h_m_modulus_of : PySem.W.nsIn K mainGlobals "modulus_of" = some (some (.ref f_modulus_of)))
    (h_m_log_modulus : PySem.W.nsIn K mainGlobals "log_modulus" = some (some (.ref f_log_modulus)))
    (h_m_check_lag : PySem.W.nsIn K mainGlobals "check_lag" = some (some (.ref f_check_lag)))
    (h_m_belief_of : PySem.W.nsIn K mainGlobals "belief_of" = some (some (.ref f_belief_of)))
    (h_m_short_modulus : PySem.W.nsIn K mainGlobals "short_modulus" = some (some (.ref f_short_modulus)))
    (h_m_right_lags : PySem.W.nsIn K mainGlobals "right_lags" = some (some (.ref f_right_lags)))
    (h_m_place_lags : PySem.W.nsIn K mainGlobals "place_lags" = some (some (.ref f_place_lags)))
    (h_m_is_small_form : PySem.W.nsIn K mainGlobals "is_small_form" = some (some (.ref f_is_small_form)))
    (h_m_is_full : PySem.W.nsIn K mainGlobals "is_full" = some (some (.ref f_is_full)))
    (h_m_is_wrap : PySem.W.nsIn K mainGlobals "is_wrap" = some (some (.ref f_is_wrap)))
    (h_m_is_part : PySem.W.nsIn K mainGlobals "is_part" = some (some (.ref f_is_part)))
    (h_m_first_wrong : PySem.W.nsIn K mainGlobals "first_wrong" = some (some (.ref f_first_wrong)))
    (h_m_l_mixed : PySem.W.nsIn K mainGlobals "_law_mixed" = some (some (.ref f_l_mixed)))
    (h_m_l_pool : PySem.W.nsIn K mainGlobals "_law_pool" = some (some (.ref f_l_pool)))
    (h_m_l_draw : PySem.W.nsIn K mainGlobals "_law_draw" = some (some (.ref f_l_draw)))
    (h_m_l_wide : PySem.W.nsIn K mainGlobals "_law_wide" = some (some (.ref f_l_wide)))
    (h_m_l_made : PySem.W.nsIn K mainGlobals "_law_made" = some (some (.ref f_l_made)))
    (h_m_l_power : PySem.W.nsIn K mainGlobals "_law_power" = some (some (.ref f_l_power)))
    (h_m_l_setting : PySem.W.nsIn K mainGlobals "_law_setting" = some (some (.ref f_l_setting)))
    (h_m_l_greater : PySem.W.nsIn K mainGlobals "_law_greater" = some (some (.ref f_l_greater)))
    (h_m_l_both_long : PySem.W.nsIn K mainGlobals "_law_both_long" = some (some (.ref f_l_both_long)))
    (h_m_law : PySem.W.nsIn K mainGlobals "law" = some (some (.ref f_law)))
    (h_in_Form : PySem.W.findIn K (.ref c_Form) "__init__" = some (some (.ref f_Formu__initu_)))
    (h_in_Scheme : PySem.W.findIn K (.ref c_Scheme) "__init__" = some (some (.ref f_Schemeu__initu_)))
    (h_in_Belief : PySem.W.findIn K (.ref c_Belief) "__init__" = some (some (.ref f_Beliefu__initu_)))
    (h_in_SizeSet : PySem.W.findIn K (.ref c_SizeSet) "__init__" = some (some (.ref f_SizeSetu__initu_)))
    (h_a1_SizeSet_start : PySem.W.findIn K (.ref c_SizeSet) "start" = some (some (.ref p_SizeSet_start)))
    (h_a1_SizeSet_period : PySem.W.findIn K (.ref c_SizeSet) "period" = some (some (.ref p_SizeSet_period)))
    (h_a_SizeSetu__containsu_ : PySem.W.findIn K (.ref c_SizeSet) "__contains__" = some (some (.ref f_SizeSetu__containsu_)))
    (h_a_SizeSetu__leu_ : PySem.W.findIn K (.ref c_SizeSet) "__le__" = some (some (.ref f_SizeSetu__leu_)))
    (h_a1_Scheme_wrap : PySem.W.findIn K (.ref c_Scheme) "wrap" = some (some (.ref p_Scheme_wrap)))
    (h_a1_Belief_believed : PySem.W.findIn K (.ref c_Belief) "believed" = some (some (.ref p_Belief_believed)))
    (h_a1_Belief_number_right : PySem.W.findIn K (.ref c_Belief) "number_right" = some (some (.ref p_Belief_number_right)))
    (h_a1_Belief_place_right : PySem.W.findIn K (.ref c_Belief) "place_right" = some (some (.ref p_Belief_place_right)))
    (h_a_Beliefu__boolu_ : PySem.W.findIn K (.ref c_Belief) "__bool__" = some (some (.ref f_Beliefu__boolu_)))
    (h_a1_Scheme_slot : PySem.W.findIn K (.ref c_Scheme) "slot" = some (some (.ref p_Scheme_slot)))
    (h_a1_Scheme_when : PySem.W.findIn K (.ref c_Scheme) "when" = some (some (.ref p_Scheme_when)))
    (h_ns_PART_WORDS_slot : PySem.W.nsIn K t_PART_WORDS "slot" = some (some (.ref t_PART_WORDS_slot)))
    (h_ns_PART_WORDS_empty : PySem.W.nsIn K t_PART_WORDS "empty" = some (some (.ref t_PART_WORDS_empty)))
    (h_ns_PART_WORDS_when : PySem.W.nsIn K t_PART_WORDS "when" = some (some (.ref t_PART_WORDS_when)))
    (h_a2_SizeSet_start : PySem.W.recIn K p_SizeSet_start "property" = some (.ref f_SizeSet_start :: rs_SizeSet_start))
    (h_a2_SizeSet_period : PySem.W.recIn K p_SizeSet_period "property" = some (.ref f_SizeSet_period :: rs_SizeSet_period))
    (h_a2_Scheme_wrap : PySem.W.recIn K p_Scheme_wrap "property" = some (.ref f_Scheme_wrap :: rs_Scheme_wrap))
    (h_a2_Belief_believed : PySem.W.recIn K p_Belief_believed "property" = some (.ref f_Belief_believed :: rs_Belief_believed))
    (h_a2_Belief_number_right : PySem.W.recIn K p_Belief_number_right "property" = some (.ref f_Belief_number_right :: rs_Belief_number_right))
    (h_a2_Belief_place_right : PySem.W.recIn K p_Belief_place_right "property" = some (.ref f_Belief_place_right :: rs_Belief_place_right))
    (h_a2_Scheme_slot : PySem.W.recIn K p_Scheme_slot "property" = some (.ref f_Scheme_slot :: rs_Scheme_slot))
    (h_a2_Scheme_when : PySem.W.recIn K p_Scheme_when "property" = some (.ref f_Scheme_when :: rs_Scheme_when))
    (h_lD_PART_WORDS : K.lookup t_PART_WORDS = some ⟨.type "dict", none, .dict es_PART_WORDS nd_PART_WORDS, #[]⟩)
    (h_tq_PART_NAMES : Hd.tupB K t_PART_NAMES [.str "wrap", .str "slot", .str "empty", .str "full", .str "when"] = true)
    (h_tq_PART_WORDS_slot : Hd.tupB K t_PART_WORDS_slot [.str "rest", .str "off", .str "mask"] = true)
    (h_zk_PART_WORDS : PySem.W.KeysLit w.params es_PART_WORDS.toList)
    (h_tq_PART_WORDS_empty : Hd.tupB K t_PART_WORDS_empty [.str "same", .str "count", .str "note"] = true)
    (h_tq_PART_WORDS_when : Hd.tupB K t_PART_WORDS_when [.str "refuse", .str "drop", .str "over"] = true)
    (h_tq_MEASURES : Hd.tupB K t_MEASURES [.str "diff", .str "count"] = true)
    (h_tq_SIGNS : Hd.tupB K t_SIGNS [.str "=", .str ">="] = true)
    (h_tq_PLAIN_FULLS : Hd.tupB K t_PLAIN_FULLS [.str "next", .str "note"] = true)
    (h_x_NoSize : PySem.W.excIn K c_NoSize [.type "ValueError", .type "Exception", .type "BaseException", .type "object"] "ValueError.__new__" = true)
    (h_kp_NoSize : PySem.W.keepIn K (.ref c_NoSize) = true)
    (h_sb_NoSize : PySem.W.subIn K (.ref c_NoSize) (.type "BaseException") = some true)
    (h_tc_NoSize : PySem.W.typeIn K (.ref c_NoSize) = some (.type "type"))
    (h_x_NoRing : PySem.W.excIn K c_NoRing [.type "ValueError", .type "Exception", .type "BaseException", .type "object"] "ValueError.__new__" = true)
    (h_kp_NoRing : PySem.W.keepIn K (.ref c_NoRing) = true)
    (h_sb_NoRing : PySem.W.subIn K (.ref c_NoRing) (.type "BaseException") = some true)
    (h_tc_NoRing : PySem.W.typeIn K (.ref c_NoRing) = some (.type "type"))
    (h_x_NotDecided : PySem.W.excIn K c_NotDecided [.type "ValueError", .type "Exception", .type "BaseException", .type "object"] "ValueError.__new__" = true)
    (h_kp_NotDecided : PySem.W.keepIn K (.ref c_NotDecided) = true)
    (h_sb_NotDecided : PySem.W.subIn K (.ref c_NotDecided) (.type "BaseException") = some true)
    (h_tc_NotDecided : PySem.W.typeIn K (.ref c_NotDecided) = some (.type "type"))
    (h_x_NoLag : PySem.W.excIn K c_NoLag [.type "ValueError", .type "Exception", .type "BaseException", .type "object"] "ValueError.__new__" = true)
    (h_kp_NoLag : PySem.W.keepIn K (.ref c_NoLag) = true)
    (h_sb_NoLag : PySem.W.subIn K (.ref c_NoLag) (.type "BaseException") = some true)
    (h_tc_NoLag : PySem.W.typeIn K (.ref c_NoLag) = some (.type "type"))
    (h_x_TooLong : PySem.W.excIn K c_TooLong [.type "ValueError", .type "Exception", .type "BaseException", .type "object"] "ValueError.__new__" = true)
    (h_kp_TooLong : PySem.W.keepIn K (.ref c_TooLong) = true)
    (h_sb_TooLong : PySem.W.subIn K (.ref c_TooLong) (.type "BaseException") = some true)
    (h_tc_TooLong : PySem.W.typeIn K (.ref c_TooLong) = some (.type "type"))
    (h_pg_Form : PySem.W.plainGet K c_Form Str.empty = true)
    (h_hd_Form : PySem.W.hasDictIn K c_Form = true)
    (h_po_Form : PySem.W.plainOver K c_Form = true)
    (h_sa_Form : PySem.W.findIn K (.ref c_Form) "__setattr__" = some (some (.builtin "object.__setattr__")))
    (h_mk_Form : PySem.W.makesIn K c_Form = true)
    (h_ii_Form : PySem.W.isFn K (.ref f_Formu__initu_) = true)
    (h_kp_Form : PySem.W.keepIn K (.ref c_Form) = true)
    (h_ha_Form : PySem.W.findIn K (.ref c_Form) "__class__" = some (some (.builtin "object.__class__")))
    (h_mo_Form : PySem.W.mroIn K c_Form (.type "object") = some true)
    (h_hn_Form : PySem.W.specialIn K (.builtin "object.__class__") "__get__" = some (some (.builtin "getset_descriptor.__get__")))
    (h_htk_Form : PySem.W.takesIn K (.builtin "object.__class__") = some true)
    (h_kt_Form_Form : PySem.W.kitOne K (.ref c_Form) (.ref c_Form) = some true)
    (h_kt_int_Form : PySem.W.kitOne K (.type "int") (.ref c_Form) = some false)
    (h_pg_Scheme : PySem.W.plainGet K c_Scheme Str.empty = true)
    (h_hd_Scheme : PySem.W.hasDictIn K c_Scheme = true)
    (h_po_Scheme : PySem.W.plainOver K c_Scheme = true)
    (h_sa_Scheme : PySem.W.findIn K (.ref c_Scheme) "__setattr__" = some (some (.builtin "object.__setattr__")))
    (h_mk_Scheme : PySem.W.makesIn K c_Scheme = true)
    (h_ii_Scheme : PySem.W.isFn K (.ref f_Schemeu__initu_) = true)
    (h_kp_Scheme : PySem.W.keepIn K (.ref c_Scheme) = true)
    (h_pg_Belief : PySem.W.plainGet K c_Belief Str.empty = true)
    (h_hd_Belief : PySem.W.hasDictIn K c_Belief = true)
    (h_po_Belief : PySem.W.plainOver K c_Belief = true)
    (h_sa_Belief : PySem.W.findIn K (.ref c_Belief) "__setattr__" = some (some (.builtin "object.__setattr__")))
    (h_mk_Belief : PySem.W.makesIn K c_Belief = true)
    (h_ii_Belief : PySem.W.isFn K (.ref f_Beliefu__initu_) = true)
    (h_kp_Belief : PySem.W.keepIn K (.ref c_Belief) = true)
    (h_pg_SizeSet : PySem.W.plainGet K c_SizeSet Str.empty = true)
    (h_hd_SizeSet : PySem.W.hasDictIn K c_SizeSet = true)
    (h_po_SizeSet : PySem.W.plainOver K c_SizeSet = true)
    (h_sa_SizeSet : PySem.W.findIn K (.ref c_SizeSet) "__setattr__" = some (some (.builtin "object.__setattr__")))
    (h_mk_SizeSet : PySem.W.makesIn K c_SizeSet = true)
    (h_ii_SizeSet : PySem.W.isFn K (.ref f_SizeSetu__initu_) = true)
    (h_kp_SizeSet : PySem.W.keepIn K (.ref c_SizeSet) = true)
    (h_ha_SizeSet : PySem.W.findIn K (.ref c_SizeSet) "__class__" = some (some (.builtin "object.__class__")))
    (h_mo_SizeSet : PySem.W.mroIn K c_SizeSet (.type "object") = some true)
    (h_hn_SizeSet : PySem.W.specialIn K (.builtin "object.__class__") "__get__" = some (some (.builtin "getset_descriptor.__get__")))
    (h_htk_SizeSet : PySem.W.takesIn K (.builtin "object.__class__") = some true)
    (h_kt_SizeSet_SizeSet : PySem.W.kitOne K (.ref c_SizeSet) (.ref c_SizeSet) = some true)
    (h_kt_tuple_SizeSet : PySem.W.kitOne K (.type "tuple") (.ref c_SizeSet) = some false)
    (h_F_has_outside : FunD K "has_outside" "has_outside" (defArgs s_has_outside) (defBody s_has_outside) (defScope s_has_outside) [] [] f_has_outside fd_has_outside)
    (h_F_is_whole : FunD K "is_whole" "is_whole" (defArgs s_is_whole) (defBody s_is_whole) (defScope s_is_whole) [] [] f_is_whole fd_is_whole)
    (h_F_is_whole_from : FunD K "is_whole_from" "is_whole_from" (defArgs s_is_whole_from) (defBody s_is_whole_from) (defScope s_is_whole_from) [] [] f_is_whole_from fd_is_whole_from)
    (h_F_is_word_of : FunD K "is_word_of" "is_word_of" (defArgs s_is_word_of) (defBody s_is_word_of) (defScope s_is_word_of) [] [] f_is_word_of fd_is_word_of)
    (h_F_is_size : FunD K "is_size" "is_size" (defArgs s_is_size) (defBody s_is_size) (defScope s_is_size) [] [] f_is_size fd_is_size)
    (h_F_check_size : FunD K "check_size" "check_size" (defArgs s_check_size) (defBody s_check_size) (defScope s_check_size) [] [] f_check_size fd_check_size)
    (h_F_is_ascending : FunD K "is_ascending" "is_ascending" (defArgs s_is_ascending) (defBody s_is_ascending) (defScope s_is_ascending) [] [] f_is_ascending fd_is_ascending)
    (h_F_check_parts : FunD K "check_parts" "check_parts" (defArgs s_check_parts) (defBody s_check_parts) (defScope s_check_parts) [] [] f_check_parts fd_check_parts)
    (h_F_least_start : FunD K "least_start" "least_start" (defArgs s_least_start) (defBody s_least_start) (defScope s_least_start) [] [] f_least_start fd_least_start)
    (h_F_marks_of : FunD K "marks_of" "marks_of" (defArgs s_marks_of) (defBody s_marks_of) (defScope s_marks_of) [] [] f_marks_of fd_marks_of)
    (h_F_shortest : FunD K "shortest" "shortest" (defArgs s_shortest) (defBody s_shortest) (defScope s_shortest) [] [] f_shortest fd_shortest)
    (h_F_SizeSetu__initu_ : FunD K "__init__" "SizeSet.__init__" (defArgs s_SizeSetu__initu_) (defBody s_SizeSetu__initu_) (defScope s_SizeSetu__initu_) [] [] f_SizeSetu__initu_ fd_SizeSetu__initu_)
    (h_F_SizeSet_start : FunD K "start" "SizeSet.start" (defArgs s_SizeSet_start) (defBody s_SizeSet_start) (defScope s_SizeSet_start) [] [] f_SizeSet_start fd_SizeSet_start)
    (h_F_SizeSet_period : FunD K "period" "SizeSet.period" (defArgs s_SizeSet_period) (defBody s_SizeSet_period) (defScope s_SizeSet_period) [] [] f_SizeSet_period fd_SizeSet_period)
    (h_F_SizeSetu__containsu_ : FunD K "__contains__" "SizeSet.__contains__" (defArgs s_SizeSetu__containsu_) (defBody s_SizeSetu__containsu_) (defScope s_SizeSetu__containsu_) [] [] f_SizeSetu__containsu_ fd_SizeSetu__containsu_)
    (h_F_common_parts : FunD K "common_parts" "common_parts" (defArgs s_common_parts) (defBody s_common_parts) (defScope s_common_parts) [] [] f_common_parts fd_common_parts)
    (h_F_SizeSetu__leu_ : FunD K "__le__" "SizeSet.__le__" (defArgs s_SizeSetu__leu_) (defBody s_SizeSetu__leu_) (defScope s_SizeSetu__leu_) [] [] f_SizeSetu__leu_ fd_SizeSetu__leu_)
    (h_F_Formu__initu_ : FunD K "__init__" "Form.__init__" (defArgs s_Formu__initu_) (defBody s_Formu__initu_) (defScope s_Formu__initu_) [] [] f_Formu__initu_ fd_Formu__initu_)
    (h_F_form_at : FunD K "form_at" "form_at" (defArgs s_form_at) (defBody s_form_at) (defScope s_form_at) [] [] f_form_at fd_form_at)
    (h_F_Scheme_wrap : FunD K "wrap" "Scheme.wrap" (defArgs s_Scheme_wrap) (defBody s_Scheme_wrap) (defScope s_Scheme_wrap) [] [] f_Scheme_wrap fd_Scheme_wrap)
    (h_F_wrap_at : FunD K "wrap_at" "wrap_at" (defArgs s_wrap_at) (defBody s_wrap_at) (defScope s_wrap_at) [] [] f_wrap_at fd_wrap_at)
    (h_F_modulus_of : FunD K "modulus_of" "modulus_of" (defArgs s_modulus_of) (defBody s_modulus_of) (defScope s_modulus_of) [] [] f_modulus_of fd_modulus_of)
    (h_F_Beliefu__initu_ : FunD K "__init__" "Belief.__init__" (defArgs s_Beliefu__initu_) (defBody s_Beliefu__initu_) (defScope s_Beliefu__initu_) [] [] f_Beliefu__initu_ fd_Beliefu__initu_)
    (h_F_Belief_believed : FunD K "believed" "Belief.believed" (defArgs s_Belief_believed) (defBody s_Belief_believed) (defScope s_Belief_believed) [] [] f_Belief_believed fd_Belief_believed)
    (h_F_Belief_number_right : FunD K "number_right" "Belief.number_right" (defArgs s_Belief_number_right) (defBody s_Belief_number_right) (defScope s_Belief_number_right) [] [] f_Belief_number_right fd_Belief_number_right)
    (h_F_Belief_place_right : FunD K "place_right" "Belief.place_right" (defArgs s_Belief_place_right) (defBody s_Belief_place_right) (defScope s_Belief_place_right) [] [] f_Belief_place_right fd_Belief_place_right)
    (h_F_Beliefu__boolu_ : FunD K "__bool__" "Belief.__bool__" (defArgs s_Beliefu__boolu_) (defBody s_Beliefu__boolu_) (defScope s_Beliefu__boolu_) [] [] f_Beliefu__boolu_ fd_Beliefu__boolu_)
    (h_F_Scheme_slot : FunD K "slot" "Scheme.slot" (defArgs s_Scheme_slot) (defBody s_Scheme_slot) (defScope s_Scheme_slot) [] [] f_Scheme_slot fd_Scheme_slot)
    (h_F_Scheme_when : FunD K "when" "Scheme.when" (defArgs s_Scheme_when) (defBody s_Scheme_when) (defScope s_Scheme_when) [] [] f_Scheme_when fd_Scheme_when)
    (h_F_log_modulus : FunD K "log_modulus" "log_modulus" (defArgs s_log_modulus) (defBody s_log_modulus) (defScope s_log_modulus) [] [] f_log_modulus fd_log_modulus)
    (h_F_check_lag : FunD K "check_lag" "check_lag" (defArgs s_check_lag) (defBody s_check_lag) (defScope s_check_lag) [] [] f_check_lag fd_check_lag)
    (h_F_belief_of : FunD K "belief_of" "belief_of" (defArgs s_belief_of) (defBody s_belief_of) (defScope s_belief_of) [] [] f_belief_of fd_belief_of)
    (h_F_short_modulus : FunD K "short_modulus" "short_modulus" (defArgs s_short_modulus) (defBody s_short_modulus) (defScope s_short_modulus) [] [] f_short_modulus fd_short_modulus)
    (h_F_right_lags : FunD K "right_lags" "right_lags" (defArgs s_right_lags) (defBody s_right_lags) (defScope s_right_lags) [] [] f_right_lags fd_right_lags)
    (h_F_place_lags : FunD K "place_lags" "place_lags" (defArgs s_place_lags) (defBody s_place_lags) (defScope s_place_lags) [] [] f_place_lags fd_place_lags)
    (h_F_is_small_form : FunD K "is_small_form" "is_small_form" (defArgs s_is_small_form) (defBody s_is_small_form) (defScope s_is_small_form) [] [] f_is_small_form fd_is_small_form)
    (h_F_is_full : FunD K "is_full" "is_full" (defArgs s_is_full) (defBody s_is_full) (defScope s_is_full) [] [] f_is_full fd_is_full)
    (h_F_is_wrap : FunD K "is_wrap" "is_wrap" (defArgs s_is_wrap) (defBody s_is_wrap) (defScope s_is_wrap) [] [] f_is_wrap fd_is_wrap)
    (h_F_is_part : FunD K "is_part" "is_part" (defArgs s_is_part) (defBody s_is_part) (defScope s_is_part) [] [] f_is_part fd_is_part)
    (h_F_first_wrong : FunD K "first_wrong" "first_wrong" (defArgs s_first_wrong) (defBody s_first_wrong) (defScope s_first_wrong) [] [] f_first_wrong fd_first_wrong)
    (h_F_Schemeu__initu_ : FunD K "__init__" "Scheme.__init__" (defArgs s_Schemeu__initu_) (defBody s_Schemeu__initu_) (defScope s_Schemeu__initu_) [] [("when", .str "refuse")] f_Schemeu__initu_ fd_Schemeu__initu_)
    (h_F_l_mixed : FunD K "_law_mixed" "_law_mixed" (defArgs s_l_mixed) (defBody s_l_mixed) (defScope s_l_mixed) [] [] f_l_mixed fd_l_mixed)
    (h_F_l_pool : FunD K "_law_pool" "_law_pool" (defArgs s_l_pool) (defBody s_l_pool) (defScope s_l_pool) [] [] f_l_pool fd_l_pool)
    (h_F_l_draw : FunD K "_law_draw" "_law_draw" (defArgs s_l_draw) (defBody s_l_draw) (defScope s_l_draw) [] [] f_l_draw fd_l_draw)
    (h_F_l_wide : FunD K "_law_wide" "_law_wide" (defArgs s_l_wide) (defBody s_l_wide) (defScope s_l_wide) [] [] f_l_wide fd_l_wide)
    (h_F_l_made : FunD K "_law_made" "_law_made" (defArgs s_l_made) (defBody s_l_made) (defScope s_l_made) [] [] f_l_made fd_l_made)
    (h_F_l_power : FunD K "_law_power" "_law_power" (defArgs s_l_power) (defBody s_l_power) (defScope s_l_power) [] [] f_l_power fd_l_power)
    (h_F_l_setting : FunD K "_law_setting" "_law_setting" (defArgs s_l_setting) (defBody s_l_setting) (defScope s_l_setting) [] [] f_l_setting fd_l_setting)
    (h_F_l_greater : FunD K "_law_greater" "_law_greater" (defArgs s_l_greater) (defBody s_l_greater) (defScope s_l_greater) [] [] f_l_greater fd_l_greater)
    (h_F_l_both_long : FunD K "_law_both_long" "_law_both_long" (defArgs s_l_both_long) (defBody s_l_both_long) (defScope s_l_both_long) [] [] f_l_both_long fd_l_both_long)
    (h_F_law : FunD K "law" "law" (defArgs s_law) (defBody s_law) (defScope s_law) [] [] f_law fd_law)
    (h_pg_SizeSet_start : PySem.W.specialIn K (.ref p_SizeSet_start) "__get__" = some (some (.builtin "property.__get__")))
    (h_pt_SizeSet_start : PySem.W.takesIn K (.ref p_SizeSet_start) = some true)
    (h_pg_SizeSet_period : PySem.W.specialIn K (.ref p_SizeSet_period) "__get__" = some (some (.builtin "property.__get__")))
    (h_pt_SizeSet_period : PySem.W.takesIn K (.ref p_SizeSet_period) = some true)
    (h_i_SizeSetu__containsu_ : PySem.W.isFn K (.ref f_SizeSetu__containsu_) = true)
    (h_i_SizeSetu__leu_ : PySem.W.isFn K (.ref f_SizeSetu__leu_) = true)
    (h_pg_Scheme_wrap : PySem.W.specialIn K (.ref p_Scheme_wrap) "__get__" = some (some (.builtin "property.__get__")))
    (h_pt_Scheme_wrap : PySem.W.takesIn K (.ref p_Scheme_wrap) = some true)
    (h_pg_Belief_believed : PySem.W.specialIn K (.ref p_Belief_believed) "__get__" = some (some (.builtin "property.__get__")))
    (h_pt_Belief_believed : PySem.W.takesIn K (.ref p_Belief_believed) = some true)
    (h_pg_Belief_number_right : PySem.W.specialIn K (.ref p_Belief_number_right) "__get__" = some (some (.builtin "property.__get__")))
    (h_pt_Belief_number_right : PySem.W.takesIn K (.ref p_Belief_number_right) = some true)
    (h_pg_Belief_place_right : PySem.W.specialIn K (.ref p_Belief_place_right) "__get__" = some (some (.builtin "property.__get__")))
    (h_pt_Belief_place_right : PySem.W.takesIn K (.ref p_Belief_place_right) = some true)
    (h_i_Beliefu__boolu_ : PySem.W.isFn K (.ref f_Beliefu__boolu_) = true)
    (h_pg_Scheme_slot : PySem.W.specialIn K (.ref p_Scheme_slot) "__get__" = some (some (.builtin "property.__get__")))
    (h_pt_Scheme_slot : PySem.W.takesIn K (.ref p_Scheme_slot) = some true)
    (h_pg_Scheme_when : PySem.W.specialIn K (.ref p_Scheme_when) "__get__" = some (some (.builtin "property.__get__")))
    (h_pt_Scheme_when : PySem.W.takesIn K (.ref p_Scheme_when) = some true)
    (h_nf_Form_Form : PySem.W.notFirst K c_Form (.ref c_Form) = true)
    (h_nf_int_Form : PySem.W.notFirst K c_Form (.type "int") = true)
    (h_nf_SizeSet_SizeSet : PySem.W.notFirst K c_SizeSet (.ref c_SizeSet) = true)
    (h_nf_tuple_SizeSet : PySem.W.notFirst K c_SizeSet (.type "tuple") = true)
    (h_xm_NoSize_NoSize : PySem.W.exmOne K (.ref c_NoSize) (.ref c_NoSize) = some true)
    (h_xm_NoRing_NoSize : PySem.W.exmOne K (.ref c_NoRing) (.ref c_NoSize) = some false)
    (h_xm_NoRing_NoRing : PySem.W.exmOne K (.ref c_NoRing) (.ref c_NoRing) = some true)
    (h_xm_NotDecided_NoSize : PySem.W.exmOne K (.ref c_NotDecided) (.ref c_NoSize) = some false)
    (h_xm_NotDecided_NoRing : PySem.W.exmOne K (.ref c_NotDecided) (.ref c_NoRing) = some false)
    (h_xm_NotDecided_NotDecided : PySem.W.exmOne K (.ref c_NotDecided) (.ref c_NotDecided) = some true)
    (h_xm_NoLag_NoSize : PySem.W.exmOne K (.ref c_NoLag) (.ref c_NoSize) = some false)
    (h_xm_NoLag_NoRing : PySem.W.exmOne K (.ref c_NoLag) (.ref c_NoRing) = some false)
    (h_xm_NoLag_NotDecided : PySem.W.exmOne K (.ref c_NoLag) (.ref c_NotDecided) = some false)
    (h_xm_NoLag_NoLag : PySem.W.exmOne K (.ref c_NoLag) (.ref c_NoLag) = some true)
    (h_xm_TooLong_TooLong : PySem.W.exmOne K (.ref c_TooLong) (.ref c_TooLong) = some true)
    : ∃ fd : FuncData, (∀ (s : Shared) (v : Value), BindsTo s fd ⟨[v], []⟩ [("_law_script", v)]) ∧ ∀ base : Heap, K.In base → base.Ns mainGlobals mg → FnOk l.prog w K mg base CX0 10 fa fd ["_law_script"] (sp_law K) := by
  have e := hfa.symm.trans (PySem.W.mg_of X G h_m_law)
  cases e
  have T : Txt w K mg ⟨f_has_outside, fd_has_outside, f_is_whole, fd_is_whole, f_is_whole_from, fd_is_whole_from, f_is_word_of, fd_is_word_of, f_is_size, fd_is_size, f_check_size, fd_check_size, f_is_ascending, fd_is_ascending, f_check_parts, fd_check_parts, f_least_start, fd_least_start, f_marks_of, fd_marks_of, f_shortest, fd_shortest, f_SizeSetu__initu_, fd_SizeSetu__initu_, f_SizeSet_start, fd_SizeSet_start, f_SizeSet_period, fd_SizeSet_period, f_SizeSetu__containsu_, fd_SizeSetu__containsu_, f_common_parts, fd_common_parts, f_SizeSetu__leu_, fd_SizeSetu__leu_, f_Formu__initu_, fd_Formu__initu_, f_form_at, fd_form_at, f_Scheme_wrap, fd_Scheme_wrap, f_wrap_at, fd_wrap_at, f_modulus_of, fd_modulus_of, f_Beliefu__initu_, fd_Beliefu__initu_, f_Belief_believed, fd_Belief_believed, f_Belief_number_right, fd_Belief_number_right, f_Belief_place_right, fd_Belief_place_right, f_Beliefu__boolu_, fd_Beliefu__boolu_, f_Scheme_slot, fd_Scheme_slot, f_Scheme_when, fd_Scheme_when, f_log_modulus, fd_log_modulus, f_check_lag, fd_check_lag, f_belief_of, fd_belief_of, f_short_modulus, fd_short_modulus, f_right_lags, fd_right_lags, f_place_lags, fd_place_lags, f_is_small_form, fd_is_small_form, f_is_full, fd_is_full, f_is_wrap, fd_is_wrap, f_is_part, fd_is_part, f_first_wrong, fd_first_wrong, f_Schemeu__initu_, fd_Schemeu__initu_, f_l_mixed, fd_l_mixed, f_l_pool, fd_l_pool, f_l_draw, fd_l_draw, f_l_wide, fd_l_wide, f_l_made, fd_l_made, f_l_power, fd_l_power, f_l_setting, fd_l_setting, f_l_greater, fd_l_greater, f_l_both_long, fd_l_both_long, fa, fd_law, c_Form, c_Scheme, c_Belief, c_RingError, c_SizeSet, c_NoSize, c_NoRing, c_NotDecided, c_NoLag, c_TooLong, p_SizeSet_start, p_SizeSet_period, p_Scheme_wrap, p_Belief_believed, p_Belief_number_right, p_Belief_place_right, p_Scheme_slot, p_Scheme_when, t_GREATEST_SIZE, t_PART_NAMES, t_PART_WORDS, t_PART_WORDS_slot, t_PART_WORDS_empty, t_PART_WORDS_when, t_MEASURES, t_SIGNS, t_PLAIN_FULLS, t_GREATEST_SLOPE, t_GREATEST_BASE, t_GREATEST_WIDTH, t_GREATEST_LAG, t_GREATEST_START, t_GREATEST_PERIOD, t_GREATEST_TOLD_MODULUS⟩ := {
    n_abs := PySem.W.mg_none_of X G h_n_abs,
    n_all := PySem.W.mg_none_of X G h_n_all,
    n_bool := PySem.W.mg_none_of X G h_n_bool,
    n_int := PySem.W.mg_none_of X G h_n_int,
    n_isinstance := PySem.W.mg_none_of X G h_n_isinstance,
    n_len := PySem.W.mg_none_of X G h_n_len,
    n_list := PySem.W.mg_none_of X G h_n_list,
    n_max := PySem.W.mg_none_of X G h_n_max,
    n_min := PySem.W.mg_none_of X G h_n_min,
    n_range := PySem.W.mg_none_of X G h_n_range,
    n_str := PySem.W.mg_none_of X G h_n_str,
    n_tuple := PySem.W.mg_none_of X G h_n_tuple,
    m_GREATEST_SIZE := PySem.W.mg_of X G h_m_GREATEST_SIZE,
    m_PART_NAMES := PySem.W.mg_of X G h_m_PART_NAMES,
    q_PART_NAMES := Hd.tupB_ok h_tq_PART_NAMES,
    m_PART_WORDS := PySem.W.mg_of X G h_m_PART_WORDS,
    q_PART_WORDS_slot := Hd.tupB_ok h_tq_PART_WORDS_slot,
    d_PART_WORDS_slot := ⟨_, _, _, h_lD_PART_WORDS, h_zk_PART_WORDS, h_ns_PART_WORDS_slot, rfl⟩,
    q_PART_WORDS_empty := Hd.tupB_ok h_tq_PART_WORDS_empty,
    d_PART_WORDS_empty := ⟨_, _, _, h_lD_PART_WORDS, h_zk_PART_WORDS, h_ns_PART_WORDS_empty, rfl⟩,
    q_PART_WORDS_when := Hd.tupB_ok h_tq_PART_WORDS_when,
    d_PART_WORDS_when := ⟨_, _, _, h_lD_PART_WORDS, h_zk_PART_WORDS, h_ns_PART_WORDS_when, rfl⟩,
    m_MEASURES := PySem.W.mg_of X G h_m_MEASURES,
    q_MEASURES := Hd.tupB_ok h_tq_MEASURES,
    m_SIGNS := PySem.W.mg_of X G h_m_SIGNS,
    q_SIGNS := Hd.tupB_ok h_tq_SIGNS,
    m_PLAIN_FULLS := PySem.W.mg_of X G h_m_PLAIN_FULLS,
    q_PLAIN_FULLS := Hd.tupB_ok h_tq_PLAIN_FULLS,
    m_GREATEST_SLOPE := PySem.W.mg_of X G h_m_GREATEST_SLOPE,
    m_GREATEST_BASE := PySem.W.mg_of X G h_m_GREATEST_BASE,
    m_GREATEST_WIDTH := PySem.W.mg_of X G h_m_GREATEST_WIDTH,
    m_GREATEST_LAG := PySem.W.mg_of X G h_m_GREATEST_LAG,
    m_GREATEST_START := PySem.W.mg_of X G h_m_GREATEST_START,
    m_GREATEST_PERIOD := PySem.W.mg_of X G h_m_GREATEST_PERIOD,
    m_GREATEST_TOLD_MODULUS := PySem.W.mg_of X G h_m_GREATEST_TOLD_MODULUS,
    m_lcm := PySem.W.mg_of X G h_m_lcm,
    m_NoSize := PySem.W.mg_of X G h_m_NoSize,
    x_NoSize := h_x_NoSize,
    kp_NoSize := h_kp_NoSize,
    sb_NoSize := h_sb_NoSize,
    tc_NoSize := h_tc_NoSize,
    m_NoRing := PySem.W.mg_of X G h_m_NoRing,
    x_NoRing := h_x_NoRing,
    kp_NoRing := h_kp_NoRing,
    sb_NoRing := h_sb_NoRing,
    tc_NoRing := h_tc_NoRing,
    m_NotDecided := PySem.W.mg_of X G h_m_NotDecided,
    x_NotDecided := h_x_NotDecided,
    kp_NotDecided := h_kp_NotDecided,
    sb_NotDecided := h_sb_NotDecided,
    tc_NotDecided := h_tc_NotDecided,
    m_NoLag := PySem.W.mg_of X G h_m_NoLag,
    x_NoLag := h_x_NoLag,
    kp_NoLag := h_kp_NoLag,
    sb_NoLag := h_sb_NoLag,
    tc_NoLag := h_tc_NoLag,
    m_TooLong := PySem.W.mg_of X G h_m_TooLong,
    x_TooLong := h_x_TooLong,
    kp_TooLong := h_kp_TooLong,
    sb_TooLong := h_sb_TooLong,
    tc_TooLong := h_tc_TooLong,
    m_Form := PySem.W.mg_of X G h_m_Form,
    k_Form := ⟨h_pg_Form, h_hd_Form, h_po_Form, h_sa_Form⟩,
    n_Form_slope := h_n_Form_slope,
    n_Form_base := h_n_Form_base,
    K_Form := ⟨h_mk_Form, h_in_Form, h_ii_Form, h_kp_Form⟩,
    i_Form := ⟨h_ha_Form, h_hn_Form, h_htk_Form, h_mo_Form⟩,
    kt_Form_Form := h_kt_Form_Form,
    kt_int_Form := h_kt_int_Form,
    m_Scheme := PySem.W.mg_of X G h_m_Scheme,
    k_Scheme := ⟨h_pg_Scheme, h_hd_Scheme, h_po_Scheme, h_sa_Scheme⟩,
    n_Scheme_parts := h_n_Scheme_parts,
    K_Scheme := ⟨h_mk_Scheme, h_in_Scheme, h_ii_Scheme, h_kp_Scheme⟩,
    m_Belief := PySem.W.mg_of X G h_m_Belief,
    k_Belief := ⟨h_pg_Belief, h_hd_Belief, h_po_Belief, h_sa_Belief⟩,
    n_Belief_lag := h_n_Belief_lag,
    n_Belief_modulus := h_n_Belief_modulus,
    n_Belief_n := h_n_Belief_n,
    K_Belief := ⟨h_mk_Belief, h_in_Belief, h_ii_Belief, h_kp_Belief⟩,
    m_RingError := PySem.W.mg_of X G h_m_RingError,
    m_SizeSet := PySem.W.mg_of X G h_m_SizeSet,
    k_SizeSet := ⟨h_pg_SizeSet, h_hd_SizeSet, h_po_SizeSet, h_sa_SizeSet⟩,
    n_SizeSet_period := h_n_SizeSet_period,
    n_SizeSet_start := h_n_SizeSet_start,
    n_SizeSet_early := h_n_SizeSet_early,
    n_SizeSet_rests := h_n_SizeSet_rests,
    n_SizeSet_early_marks := h_n_SizeSet_early_marks,
    n_SizeSet_rest_marks := h_n_SizeSet_rest_marks,
    K_SizeSet := ⟨h_mk_SizeSet, h_in_SizeSet, h_ii_SizeSet, h_kp_SizeSet⟩,
    i_SizeSet := ⟨h_ha_SizeSet, h_hn_SizeSet, h_htk_SizeSet, h_mo_SizeSet⟩,
    kt_SizeSet_SizeSet := h_kt_SizeSet_SizeSet,
    kt_tuple_SizeSet := h_kt_tuple_SizeSet,
    m_has_outside := PySem.W.mg_of X G h_m_has_outside,
    F_has_outside := Hd.plain h_F_has_outside,
    b_has_outside := (Hd.plain h_F_has_outside).binds fun _ _ _ _ _ _ us hl => match us, hl with | [_, _, _], _ => rfl,
    m_is_whole := PySem.W.mg_of X G h_m_is_whole,
    F_is_whole := Hd.plain h_F_is_whole,
    b_is_whole := (Hd.plain h_F_is_whole).binds fun _ _ _ _ _ _ us hl => match us, hl with | [_], _ => rfl,
    m_is_whole_from := PySem.W.mg_of X G h_m_is_whole_from,
    F_is_whole_from := Hd.plain h_F_is_whole_from,
    b_is_whole_from := (Hd.plain h_F_is_whole_from).binds fun _ _ _ _ _ _ us hl => match us, hl with | [_, _, _], _ => rfl,
    m_is_word_of := PySem.W.mg_of X G h_m_is_word_of,
    F_is_word_of := Hd.plain h_F_is_word_of,
    b_is_word_of := (Hd.plain h_F_is_word_of).binds fun _ _ _ _ _ _ us hl => match us, hl with | [_, _], _ => rfl,
    m_is_size := PySem.W.mg_of X G h_m_is_size,
    F_is_size := Hd.plain h_F_is_size,
    b_is_size := (Hd.plain h_F_is_size).binds fun _ _ _ _ _ _ us hl => match us, hl with | [_], _ => rfl,
    m_check_size := PySem.W.mg_of X G h_m_check_size,
    F_check_size := Hd.plain h_F_check_size,
    b_check_size := (Hd.plain h_F_check_size).binds fun _ _ _ _ _ _ us hl => match us, hl with | [_], _ => rfl,
    m_is_ascending := PySem.W.mg_of X G h_m_is_ascending,
    F_is_ascending := Hd.plain h_F_is_ascending,
    b_is_ascending := (Hd.plain h_F_is_ascending).binds fun _ _ _ _ _ _ us hl => match us, hl with | [_, _, _], _ => rfl,
    m_check_parts := PySem.W.mg_of X G h_m_check_parts,
    F_check_parts := Hd.plain h_F_check_parts,
    b_check_parts := (Hd.plain h_F_check_parts).binds fun _ _ _ _ _ _ us hl => match us, hl with | [_, _, _, _], _ => rfl,
    m_least_start := PySem.W.mg_of X G h_m_least_start,
    F_least_start := Hd.plain h_F_least_start,
    b_least_start := (Hd.plain h_F_least_start).binds fun _ _ _ _ _ _ us hl => match us, hl with | [_, _], _ => rfl,
    m_marks_of := PySem.W.mg_of X G h_m_marks_of,
    F_marks_of := Hd.plain h_F_marks_of,
    b_marks_of := (Hd.plain h_F_marks_of).binds fun _ _ _ _ _ _ us hl => match us, hl with | [_, _], _ => rfl,
    m_shortest := PySem.W.mg_of X G h_m_shortest,
    F_shortest := Hd.plain h_F_shortest,
    b_shortest := (Hd.plain h_F_shortest).binds fun _ _ _ _ _ _ us hl => match us, hl with | [_], _ => rfl,
    F_SizeSetu__initu_ := Hd.plain h_F_SizeSetu__initu_,
    b_SizeSetu__initu_ := (Hd.plain h_F_SizeSetu__initu_).binds fun _ _ _ _ _ _ us hl => match us, hl with | [_, _, _, _, _], _ => rfl,
    F_SizeSet_start := Hd.plain h_F_SizeSet_start,
    b_SizeSet_start := (Hd.plain h_F_SizeSet_start).binds fun _ _ _ _ _ _ us hl => match us, hl with | [_], _ => rfl,
    F_SizeSet_period := Hd.plain h_F_SizeSet_period,
    b_SizeSet_period := (Hd.plain h_F_SizeSet_period).binds fun _ _ _ _ _ _ us hl => match us, hl with | [_], _ => rfl,
    F_SizeSetu__containsu_ := Hd.plain h_F_SizeSetu__containsu_,
    b_SizeSetu__containsu_ := (Hd.plain h_F_SizeSetu__containsu_).binds fun _ _ _ _ _ _ us hl => match us, hl with | [_, _], _ => rfl,
    m_common_parts := PySem.W.mg_of X G h_m_common_parts,
    F_common_parts := Hd.plain h_F_common_parts,
    b_common_parts := (Hd.plain h_F_common_parts).binds fun _ _ _ _ _ _ us hl => match us, hl with | [_, _], _ => rfl,
    F_SizeSetu__leu_ := Hd.plain h_F_SizeSetu__leu_,
    b_SizeSetu__leu_ := (Hd.plain h_F_SizeSetu__leu_).binds fun _ _ _ _ _ _ us hl => match us, hl with | [_, _], _ => rfl,
    F_Formu__initu_ := Hd.plain h_F_Formu__initu_,
    b_Formu__initu_ := (Hd.plain h_F_Formu__initu_).binds fun _ _ _ _ _ _ us hl => match us, hl with | [_, _, _], _ => rfl,
    m_form_at := PySem.W.mg_of X G h_m_form_at,
    F_form_at := Hd.plain h_F_form_at,
    b_form_at := (Hd.plain h_F_form_at).binds fun _ _ _ _ _ _ us hl => match us, hl with | [_, _], _ => rfl,
    F_Scheme_wrap := Hd.plain h_F_Scheme_wrap,
    b_Scheme_wrap := (Hd.plain h_F_Scheme_wrap).binds fun _ _ _ _ _ _ us hl => match us, hl with | [_], _ => rfl,
    m_wrap_at := PySem.W.mg_of X G h_m_wrap_at,
    F_wrap_at := Hd.plain h_F_wrap_at,
    b_wrap_at := (Hd.plain h_F_wrap_at).binds fun _ _ _ _ _ _ us hl => match us, hl with | [_, _], _ => rfl,
    m_modulus_of := PySem.W.mg_of X G h_m_modulus_of,
    F_modulus_of := Hd.plain h_F_modulus_of,
    b_modulus_of := (Hd.plain h_F_modulus_of).binds fun _ _ _ _ _ _ us hl => match us, hl with | [_, _], _ => rfl,
    F_Beliefu__initu_ := Hd.plain h_F_Beliefu__initu_,
    b_Beliefu__initu_ := (Hd.plain h_F_Beliefu__initu_).binds fun _ _ _ _ _ _ us hl => match us, hl with | [_, _, _, _], _ => rfl,
    F_Belief_believed := Hd.plain h_F_Belief_believed,
    b_Belief_believed := (Hd.plain h_F_Belief_believed).binds fun _ _ _ _ _ _ us hl => match us, hl with | [_], _ => rfl,
    F_Belief_number_right := Hd.plain h_F_Belief_number_right,
    b_Belief_number_right := (Hd.plain h_F_Belief_number_right).binds fun _ _ _ _ _ _ us hl => match us, hl with | [_], _ => rfl,
    F_Belief_place_right := Hd.plain h_F_Belief_place_right,
    b_Belief_place_right := (Hd.plain h_F_Belief_place_right).binds fun _ _ _ _ _ _ us hl => match us, hl with | [_], _ => rfl,
    F_Beliefu__boolu_ := Hd.plain h_F_Beliefu__boolu_,
    b_Beliefu__boolu_ := (Hd.plain h_F_Beliefu__boolu_).binds fun _ _ _ _ _ _ us hl => match us, hl with | [_], _ => rfl,
    F_Scheme_slot := Hd.plain h_F_Scheme_slot,
    b_Scheme_slot := (Hd.plain h_F_Scheme_slot).binds fun _ _ _ _ _ _ us hl => match us, hl with | [_], _ => rfl,
    F_Scheme_when := Hd.plain h_F_Scheme_when,
    b_Scheme_when := (Hd.plain h_F_Scheme_when).binds fun _ _ _ _ _ _ us hl => match us, hl with | [_], _ => rfl,
    m_log_modulus := PySem.W.mg_of X G h_m_log_modulus,
    F_log_modulus := Hd.plain h_F_log_modulus,
    b_log_modulus := (Hd.plain h_F_log_modulus).binds fun _ _ _ _ _ _ us hl => match us, hl with | [_, _], _ => rfl,
    m_check_lag := PySem.W.mg_of X G h_m_check_lag,
    F_check_lag := Hd.plain h_F_check_lag,
    b_check_lag := (Hd.plain h_F_check_lag).binds fun _ _ _ _ _ _ us hl => match us, hl with | [_, _], _ => rfl,
    m_belief_of := PySem.W.mg_of X G h_m_belief_of,
    F_belief_of := Hd.plain h_F_belief_of,
    b_belief_of := (Hd.plain h_F_belief_of).binds fun _ _ _ _ _ _ us hl => match us, hl with | [_, _, _], _ => rfl,
    m_short_modulus := PySem.W.mg_of X G h_m_short_modulus,
    F_short_modulus := Hd.plain h_F_short_modulus,
    b_short_modulus := (Hd.plain h_F_short_modulus).binds fun _ _ _ _ _ _ us hl => match us, hl with | [_, _], _ => rfl,
    m_right_lags := PySem.W.mg_of X G h_m_right_lags,
    F_right_lags := Hd.plain h_F_right_lags,
    b_right_lags := (Hd.plain h_F_right_lags).binds fun _ _ _ _ _ _ us hl => match us, hl with | [_, _], _ => rfl,
    m_place_lags := PySem.W.mg_of X G h_m_place_lags,
    F_place_lags := Hd.plain h_F_place_lags,
    b_place_lags := (Hd.plain h_F_place_lags).binds fun _ _ _ _ _ _ us hl => match us, hl with | [_, _], _ => rfl,
    m_is_small_form := PySem.W.mg_of X G h_m_is_small_form,
    F_is_small_form := Hd.plain h_F_is_small_form,
    b_is_small_form := (Hd.plain h_F_is_small_form).binds fun _ _ _ _ _ _ us hl => match us, hl with | [_], _ => rfl,
    m_is_full := PySem.W.mg_of X G h_m_is_full,
    F_is_full := Hd.plain h_F_is_full,
    b_is_full := (Hd.plain h_F_is_full).binds fun _ _ _ _ _ _ us hl => match us, hl with | [_], _ => rfl,
    m_is_wrap := PySem.W.mg_of X G h_m_is_wrap,
    F_is_wrap := Hd.plain h_F_is_wrap,
    b_is_wrap := (Hd.plain h_F_is_wrap).binds fun _ _ _ _ _ _ us hl => match us, hl with | [_], _ => rfl,
    m_is_part := PySem.W.mg_of X G h_m_is_part,
    F_is_part := Hd.plain h_F_is_part,
    b_is_part := (Hd.plain h_F_is_part).binds fun _ _ _ _ _ _ us hl => match us, hl with | [_, _], _ => rfl,
    m_first_wrong := PySem.W.mg_of X G h_m_first_wrong,
    F_first_wrong := Hd.plain h_F_first_wrong,
    b_first_wrong := (Hd.plain h_F_first_wrong).binds fun _ _ _ _ _ _ us hl => match us, hl with | [_], _ => rfl,
    F_Schemeu__initu_ := h_F_Schemeu__initu_,
    kb_Schemeu__initu_ := FunD.kbinds0 (kws := [("when", .str "refuse")]) (ps := ["self", "wrap", "slot", "empty", "full", "when"]) (show FunD K _ _ _ _ _ _ _ _ _ from h_F_Schemeu__initu_) 1 ["wrap", "slot", "empty", "full", "when"] [] (fun us _ ws => us ++ ws) (by simp) (by simp) (fun r1 _ r3 => r1.append r3) (fun D doc pm an cdv ct us mv ws h1 h2 h3 => match us, mv, ws, h1, h2, h3 with | [_], [], [_, _, _, _, _], _, _, _ => rfl),
    m_l_mixed := PySem.W.mg_of X G h_m_l_mixed,
    F_l_mixed := Hd.plain h_F_l_mixed,
    b_l_mixed := (Hd.plain h_F_l_mixed).binds fun _ _ _ _ _ _ us hl => match us, hl with | [_, _, _], _ => rfl,
    m_l_pool := PySem.W.mg_of X G h_m_l_pool,
    F_l_pool := Hd.plain h_F_l_pool,
    b_l_pool := (Hd.plain h_F_l_pool).binds fun _ _ _ _ _ _ us hl => match us, hl with | [_], _ => rfl,
    m_l_draw := PySem.W.mg_of X G h_m_l_draw,
    F_l_draw := Hd.plain h_F_l_draw,
    b_l_draw := (Hd.plain h_F_l_draw).binds fun _ _ _ _ _ _ us hl => match us, hl with | [_, _], _ => rfl,
    m_l_wide := PySem.W.mg_of X G h_m_l_wide,
    F_l_wide := Hd.plain h_F_l_wide,
    b_l_wide := (Hd.plain h_F_l_wide).binds fun _ _ _ _ _ _ us hl => match us, hl with | [_, _], _ => rfl,
    m_l_made := PySem.W.mg_of X G h_m_l_made,
    F_l_made := Hd.plain h_F_l_made,
    b_l_made := (Hd.plain h_F_l_made).binds fun _ _ _ _ _ _ us hl => match us, hl with | [_, _], _ => rfl,
    m_l_power := PySem.W.mg_of X G h_m_l_power,
    F_l_power := Hd.plain h_F_l_power,
    b_l_power := (Hd.plain h_F_l_power).binds fun _ _ _ _ _ _ us hl => match us, hl with | [_], _ => rfl,
    m_l_setting := PySem.W.mg_of X G h_m_l_setting,
    F_l_setting := Hd.plain h_F_l_setting,
    b_l_setting := (Hd.plain h_F_l_setting).binds fun _ _ _ _ _ _ us hl => match us, hl with | [_], _ => rfl,
    m_l_greater := PySem.W.mg_of X G h_m_l_greater,
    F_l_greater := Hd.plain h_F_l_greater,
    b_l_greater := (Hd.plain h_F_l_greater).binds fun _ _ _ _ _ _ us hl => match us, hl with | [_, _, _, _], _ => rfl,
    m_l_both_long := PySem.W.mg_of X G h_m_l_both_long,
    F_l_both_long := Hd.plain h_F_l_both_long,
    b_l_both_long := (Hd.plain h_F_l_both_long).binds fun _ _ _ _ _ _ us hl => match us, hl with | [_, _], _ => rfl,
    m_law := PySem.W.mg_of X G h_m_law,
    F_law := Hd.plain h_F_law,
    b_law := (Hd.plain h_F_law).binds fun _ _ _ _ _ _ us hl => match us, hl with | [_], _ => rfl,
    R_SizeSet_start := ⟨h_a1_SizeSet_start, h_pg_SizeSet_start, h_pt_SizeSet_start, ⟨_, h_a2_SizeSet_start⟩⟩,
    R_SizeSet_period := ⟨h_a1_SizeSet_period, h_pg_SizeSet_period, h_pt_SizeSet_period, ⟨_, h_a2_SizeSet_period⟩⟩,
    O_SizeSetu__containsu__1 := ⟨h_a_SizeSetu__containsu_, h_i_SizeSetu__containsu_⟩,
    O_SizeSetu__leu__1 := ⟨h_a_SizeSetu__leu_, h_i_SizeSetu__leu_⟩,
    R_Scheme_wrap := ⟨h_a1_Scheme_wrap, h_pg_Scheme_wrap, h_pt_Scheme_wrap, ⟨_, h_a2_Scheme_wrap⟩⟩,
    R_Belief_believed := ⟨h_a1_Belief_believed, h_pg_Belief_believed, h_pt_Belief_believed, ⟨_, h_a2_Belief_believed⟩⟩,
    R_Belief_number_right := ⟨h_a1_Belief_number_right, h_pg_Belief_number_right, h_pt_Belief_number_right, ⟨_, h_a2_Belief_number_right⟩⟩,
    R_Belief_place_right := ⟨h_a1_Belief_place_right, h_pg_Belief_place_right, h_pt_Belief_place_right, ⟨_, h_a2_Belief_place_right⟩⟩,
    O_Beliefu__boolu__1 := ⟨h_a_Beliefu__boolu_, h_i_Beliefu__boolu_⟩,
    R_Scheme_slot := ⟨h_a1_Scheme_slot, h_pg_Scheme_slot, h_pt_Scheme_slot, ⟨_, h_a2_Scheme_slot⟩⟩,
    R_Scheme_when := ⟨h_a1_Scheme_when, h_pg_Scheme_when, h_pt_Scheme_when, ⟨_, h_a2_Scheme_when⟩⟩,
    nf_Form_Form := h_nf_Form_Form,
    nf_int_Form := h_nf_int_Form,
    nf_SizeSet_SizeSet := h_nf_SizeSet_SizeSet,
    nf_tuple_SizeSet := h_nf_tuple_SizeSet,
    xm_NoSize_NoSize := h_xm_NoSize_NoSize,
    xm_NoRing_NoSize := h_xm_NoRing_NoSize,
    xm_NoRing_NoRing := h_xm_NoRing_NoRing,
    xm_NotDecided_NoSize := h_xm_NotDecided_NoSize,
    xm_NotDecided_NoRing := h_xm_NotDecided_NoRing,
    xm_NotDecided_NotDecided := h_xm_NotDecided_NotDecided,
    xm_NoLag_NoSize := h_xm_NoLag_NoSize,
    xm_NoLag_NoRing := h_xm_NoLag_NoRing,
    xm_NoLag_NotDecided := h_xm_NoLag_NotDecided,
    xm_NoLag_NoLag := h_xm_NoLag_NoLag,
    xm_TooLong_TooLong := h_xm_TooLong_TooLong }
  have bl := FunD.bindsA (ps := ["_law_script"]) h_F_law fun _ _ _ _ _ _ us hl => match us, hl with | [_], _ => rfl
  exact ⟨fd_law, fun s v => bl s [v] rfl, fun base _ _ => ok_law T⟩
theorem facts {P : PySem.W.OpenLaw} {w : World} {K : PySem.W.Frag} {h : Heap} {mg : Str → Option Value} {fa : Addr} (X : K.In h) (G : h.Ns mainGlobals mg) (hfa : mg "law" = some (.ref fa)) (c : Hd.tell fns tbs exs K = Hd.told fns tbs w) :
    ∃ fd : FuncData, (∀ (s : Shared) (v : Value), BindsTo s fd ⟨[v], []⟩ [("_law_script", v)]) ∧ ∀ base : Heap, K.In base → base.Ns mainGlobals mg → FnOk P.prog w K mg base CX0 10 fa fd ["_law_script"] (sp_law K) := by
  have e := Hd.exOf c
  obtain ⟨e0, e⟩ := He.ba e
  obtain ⟨h_n_abs, h_n_all, h_n_bool, h_n_int, h_n_isinstance, h_n_len, h_n_list, h_n_max, h_n_min, h_n_range, h_n_str, h_n_tuple⟩ := (show Px0 K from of_decide_eq_true e0)
  obtain ⟨e1, e⟩ := He.ba e
  obtain ⟨h_m_GREATEST_SIZE, h_m_PART_NAMES, h_m_PART_WORDS, h_m_MEASURES, h_m_SIGNS, h_m_PLAIN_FULLS, h_m_GREATEST_SLOPE, h_m_GREATEST_BASE, h_m_GREATEST_WIDTH, h_m_GREATEST_LAG, h_m_GREATEST_START, h_m_GREATEST_PERIOD⟩ := (show Px1 K from of_decide_eq_true e1)
  obtain ⟨e2, e⟩ := He.ba e
  obtain ⟨h_m_GREATEST_TOLD_MODULUS, h_m_lcm, h_m_NoSize, h_m_NoRing, h_m_NotDecided, h_m_NoLag, h_m_TooLong, h_m_Form, h_n_Form_slope, h_n_Form_base, h_m_Scheme, h_n_Scheme_parts⟩ := (show Px2 K from of_decide_eq_true e2)
  obtain ⟨e3, e⟩ := He.ba e
  obtain ⟨h_m_Belief, h_n_Belief_lag, h_n_Belief_modulus, h_n_Belief_n, h_m_RingError, h_m_SizeSet, h_n_SizeSet_period, h_n_SizeSet_start, h_n_SizeSet_early, h_n_SizeSet_rests, h_n_SizeSet_early_marks, h_n_SizeSet_rest_marks⟩ := (show Px3 K from of_decide_eq_true e3)
  obtain ⟨e4, e⟩ := He.ba e
  obtain ⟨h_m_has_outside, h_m_is_whole, h_m_is_whole_from, h_m_is_word_of, h_m_is_size, h_m_check_size, h_m_is_ascending, h_m_check_parts, h_m_least_start, h_m_marks_of, h_m_shortest, h_m_common_parts⟩ := (show Px4 K from of_decide_eq_true e4)
  obtain ⟨e5, e⟩ := He.ba e
  obtain ⟨h_m_form_at, h_m_wrap_at, h_m_modulus_of, h_m_log_modulus, h_m_check_lag, h_m_belief_of, h_m_short_modulus, h_m_right_lags, h_m_place_lags, h_m_is_small_form, h_m_is_full, h_m_is_wrap⟩ := (show Px5 K from of_decide_eq_true e5)
  obtain ⟨e6, e⟩ := He.ba e
  obtain ⟨h_m_is_part, h_m_first_wrong, h_m_l_mixed, h_m_l_pool, h_m_l_draw, h_m_l_wide, h_m_l_made, h_m_l_power, h_m_l_setting, h_m_l_greater, h_m_l_both_long, h_m_law⟩ := (show Px6 K from of_decide_eq_true e6)
  obtain ⟨e7, e⟩ := He.ba e
  obtain ⟨h_in_Form, h_in_Scheme, h_in_Belief, h_in_SizeSet, h_a1_SizeSet_start, h_a1_SizeSet_period, h_a_SizeSetu__containsu_, h_a_SizeSetu__leu_, h_a1_Scheme_wrap, h_a1_Belief_believed, h_a1_Belief_number_right, h_a1_Belief_place_right⟩ := (show Px7 K from of_decide_eq_true e7)
  obtain ⟨e8, e⟩ := He.ba e
  obtain ⟨h_a_Beliefu__boolu_, h_a1_Scheme_slot, h_a1_Scheme_when, h_ns_PART_WORDS_slot, h_ns_PART_WORDS_empty, h_ns_PART_WORDS_when, h_a2_SizeSet_start, h_a2_SizeSet_period, h_a2_Scheme_wrap, h_a2_Belief_believed, h_a2_Belief_number_right, h_a2_Belief_place_right⟩ := (show Px8 K from of_decide_eq_true e8)
  obtain ⟨e9, e⟩ := He.ba e
  obtain ⟨h_a2_Scheme_slot, h_a2_Scheme_when, h_tq_PART_NAMES, h_tq_PART_WORDS_slot, h_tq_PART_WORDS_empty, h_tq_PART_WORDS_when, h_tq_MEASURES, h_tq_SIGNS, h_tq_PLAIN_FULLS, h_x_NoSize, h_kp_NoSize, h_sb_NoSize⟩ := (show Px9 K from of_decide_eq_true e9)
  obtain ⟨e10, e⟩ := He.ba e
  obtain ⟨h_tc_NoSize, h_x_NoRing, h_kp_NoRing, h_sb_NoRing, h_tc_NoRing, h_x_NotDecided, h_kp_NotDecided, h_sb_NotDecided, h_tc_NotDecided, h_x_NoLag, h_kp_NoLag, h_sb_NoLag⟩ := (show Px10 K from of_decide_eq_true e10)
  obtain ⟨e11, e⟩ := He.ba e
  obtain ⟨h_tc_NoLag, h_x_TooLong, h_kp_TooLong, h_sb_TooLong, h_tc_TooLong, h_pg_Form, h_hd_Form, h_po_Form, h_sa_Form, h_mk_Form, h_ii_Form, h_kp_Form⟩ := (show Px11 K from of_decide_eq_true e11)
  obtain ⟨e12, e⟩ := He.ba e
  obtain ⟨h_ha_Form, h_mo_Form, h_hn_Form, h_htk_Form, h_kt_Form_Form, h_kt_int_Form, h_pg_Scheme, h_hd_Scheme, h_po_Scheme, h_sa_Scheme, h_mk_Scheme, h_ii_Scheme⟩ := (show Px12 K from of_decide_eq_true e12)
  obtain ⟨e13, e⟩ := He.ba e
  obtain ⟨h_kp_Scheme, h_pg_Belief, h_hd_Belief, h_po_Belief, h_sa_Belief, h_mk_Belief, h_ii_Belief, h_kp_Belief, h_pg_SizeSet, h_hd_SizeSet, h_po_SizeSet, h_sa_SizeSet⟩ := (show Px13 K from of_decide_eq_true e13)
  obtain ⟨e14, e⟩ := He.ba e
  obtain ⟨h_mk_SizeSet, h_ii_SizeSet, h_kp_SizeSet, h_ha_SizeSet, h_mo_SizeSet, h_hn_SizeSet, h_htk_SizeSet, h_kt_SizeSet_SizeSet, h_kt_tuple_SizeSet, h_pg_SizeSet_start, h_pt_SizeSet_start, h_pg_SizeSet_period⟩ := (show Px14 K from of_decide_eq_true e14)
  obtain ⟨e15, e⟩ := He.ba e
  obtain ⟨h_pt_SizeSet_period, h_i_SizeSetu__containsu_, h_i_SizeSetu__leu_, h_pg_Scheme_wrap, h_pt_Scheme_wrap, h_pg_Belief_believed, h_pt_Belief_believed, h_pg_Belief_number_right, h_pt_Belief_number_right, h_pg_Belief_place_right, h_pt_Belief_place_right, h_i_Beliefu__boolu_⟩ := (show Px15 K from of_decide_eq_true e15)
  obtain ⟨e16, e⟩ := He.ba e
  obtain ⟨h_pg_Scheme_slot, h_pt_Scheme_slot, h_pg_Scheme_when, h_pt_Scheme_when, h_nf_Form_Form, h_nf_int_Form, h_nf_SizeSet_SizeSet, h_nf_tuple_SizeSet, h_xm_NoSize_NoSize, h_xm_NoRing_NoSize, h_xm_NoRing_NoRing, h_xm_NotDecided_NoSize⟩ := (show Px16 K from of_decide_eq_true e16)
  obtain ⟨e17, e⟩ := He.ba e
  obtain ⟨h_xm_NotDecided_NoRing, h_xm_NotDecided_NotDecided, h_xm_NoLag_NoSize, h_xm_NoLag_NoRing, h_xm_NoLag_NotDecided, h_xm_NoLag_NoLag, h_xm_TooLong_TooLong⟩ := (show Px17 K from of_decide_eq_true e17)
  obtain ⟨fd_has_outside, h_F_has_outside⟩ := Hd.fnOf c 0 (d := df0) rfl
  obtain ⟨fd_is_whole, h_F_is_whole⟩ := Hd.fnOf c 1 (d := df1) rfl
  obtain ⟨fd_is_whole_from, h_F_is_whole_from⟩ := Hd.fnOf c 2 (d := df2) rfl
  obtain ⟨fd_is_word_of, h_F_is_word_of⟩ := Hd.fnOf c 3 (d := df3) rfl
  obtain ⟨fd_is_size, h_F_is_size⟩ := Hd.fnOf c 4 (d := df4) rfl
  obtain ⟨fd_check_size, h_F_check_size⟩ := Hd.fnOf c 5 (d := df5) rfl
  obtain ⟨fd_is_ascending, h_F_is_ascending⟩ := Hd.fnOf c 6 (d := df6) rfl
  obtain ⟨fd_check_parts, h_F_check_parts⟩ := Hd.fnOf c 7 (d := df7) rfl
  obtain ⟨fd_least_start, h_F_least_start⟩ := Hd.fnOf c 8 (d := df8) rfl
  obtain ⟨fd_marks_of, h_F_marks_of⟩ := Hd.fnOf c 9 (d := df9) rfl
  obtain ⟨fd_shortest, h_F_shortest⟩ := Hd.fnOf c 10 (d := df10) rfl
  obtain ⟨fd_SizeSetu__initu_, h_F_SizeSetu__initu_⟩ := Hd.fnOf c 11 (d := df11) rfl
  obtain ⟨fd_SizeSet_start, h_F_SizeSet_start⟩ := Hd.fnOf c 12 (d := df12) rfl
  obtain ⟨fd_SizeSet_period, h_F_SizeSet_period⟩ := Hd.fnOf c 13 (d := df13) rfl
  obtain ⟨fd_SizeSetu__containsu_, h_F_SizeSetu__containsu_⟩ := Hd.fnOf c 14 (d := df14) rfl
  obtain ⟨fd_common_parts, h_F_common_parts⟩ := Hd.fnOf c 15 (d := df15) rfl
  obtain ⟨fd_SizeSetu__leu_, h_F_SizeSetu__leu_⟩ := Hd.fnOf c 16 (d := df16) rfl
  obtain ⟨fd_Formu__initu_, h_F_Formu__initu_⟩ := Hd.fnOf c 17 (d := df17) rfl
  obtain ⟨fd_form_at, h_F_form_at⟩ := Hd.fnOf c 18 (d := df18) rfl
  obtain ⟨fd_Scheme_wrap, h_F_Scheme_wrap⟩ := Hd.fnOf c 19 (d := df19) rfl
  obtain ⟨fd_wrap_at, h_F_wrap_at⟩ := Hd.fnOf c 20 (d := df20) rfl
  obtain ⟨fd_modulus_of, h_F_modulus_of⟩ := Hd.fnOf c 21 (d := df21) rfl
  obtain ⟨fd_Beliefu__initu_, h_F_Beliefu__initu_⟩ := Hd.fnOf c 22 (d := df22) rfl
  obtain ⟨fd_Belief_believed, h_F_Belief_believed⟩ := Hd.fnOf c 23 (d := df23) rfl
  obtain ⟨fd_Belief_number_right, h_F_Belief_number_right⟩ := Hd.fnOf c 24 (d := df24) rfl
  obtain ⟨fd_Belief_place_right, h_F_Belief_place_right⟩ := Hd.fnOf c 25 (d := df25) rfl
  obtain ⟨fd_Beliefu__boolu_, h_F_Beliefu__boolu_⟩ := Hd.fnOf c 26 (d := df26) rfl
  obtain ⟨fd_Scheme_slot, h_F_Scheme_slot⟩ := Hd.fnOf c 27 (d := df27) rfl
  obtain ⟨fd_Scheme_when, h_F_Scheme_when⟩ := Hd.fnOf c 28 (d := df28) rfl
  obtain ⟨fd_log_modulus, h_F_log_modulus⟩ := Hd.fnOf c 29 (d := df29) rfl
  obtain ⟨fd_check_lag, h_F_check_lag⟩ := Hd.fnOf c 30 (d := df30) rfl
  obtain ⟨fd_belief_of, h_F_belief_of⟩ := Hd.fnOf c 31 (d := df31) rfl
  obtain ⟨fd_short_modulus, h_F_short_modulus⟩ := Hd.fnOf c 32 (d := df32) rfl
  obtain ⟨fd_right_lags, h_F_right_lags⟩ := Hd.fnOf c 33 (d := df33) rfl
  obtain ⟨fd_place_lags, h_F_place_lags⟩ := Hd.fnOf c 34 (d := df34) rfl
  obtain ⟨fd_is_small_form, h_F_is_small_form⟩ := Hd.fnOf c 35 (d := df35) rfl
  obtain ⟨fd_is_full, h_F_is_full⟩ := Hd.fnOf c 36 (d := df36) rfl
  obtain ⟨fd_is_wrap, h_F_is_wrap⟩ := Hd.fnOf c 37 (d := df37) rfl
  obtain ⟨fd_is_part, h_F_is_part⟩ := Hd.fnOf c 38 (d := df38) rfl
  obtain ⟨fd_first_wrong, h_F_first_wrong⟩ := Hd.fnOf c 39 (d := df39) rfl
  obtain ⟨fd_Schemeu__initu_, h_F_Schemeu__initu_⟩ := Hd.fnOf c 40 (d := df40) rfl
  obtain ⟨fd_l_mixed, h_F_l_mixed⟩ := Hd.fnOf c 41 (d := df41) rfl
  obtain ⟨fd_l_pool, h_F_l_pool⟩ := Hd.fnOf c 42 (d := df42) rfl
  obtain ⟨fd_l_draw, h_F_l_draw⟩ := Hd.fnOf c 43 (d := df43) rfl
  obtain ⟨fd_l_wide, h_F_l_wide⟩ := Hd.fnOf c 44 (d := df44) rfl
  obtain ⟨fd_l_made, h_F_l_made⟩ := Hd.fnOf c 45 (d := df45) rfl
  obtain ⟨fd_l_power, h_F_l_power⟩ := Hd.fnOf c 46 (d := df46) rfl
  obtain ⟨fd_l_setting, h_F_l_setting⟩ := Hd.fnOf c 47 (d := df47) rfl
  obtain ⟨fd_l_greater, h_F_l_greater⟩ := Hd.fnOf c 48 (d := df48) rfl
  obtain ⟨fd_l_both_long, h_F_l_both_long⟩ := Hd.fnOf c 49 (d := df49) rfl
  obtain ⟨fd_law, h_F_law⟩ := Hd.fnOf c 50 (d := df50) rfl
  obtain ⟨es_PART_WORDS, nd_PART_WORDS, hK_PART_WORDS⟩ := Hd.tabOf c 0 (t := (fun K => He.ga K "PART_WORDS", ["slot", "empty", "when"])) rfl
  have hfl : fa = He.ga K "law" := by
    have e := hfa.symm.trans (PySem.W.mg_of X G h_m_law)
    cases e
    rfl
  subst hfl
  exact all_mk X G hfa h_n_abs h_n_all h_n_bool h_n_int h_n_isinstance h_n_len h_n_list h_n_max h_n_min h_n_range h_n_str h_n_tuple h_m_GREATEST_SIZE h_m_PART_NAMES h_m_PART_WORDS h_m_MEASURES h_m_SIGNS h_m_PLAIN_FULLS h_m_GREATEST_SLOPE h_m_GREATEST_BASE h_m_GREATEST_WIDTH h_m_GREATEST_LAG h_m_GREATEST_START h_m_GREATEST_PERIOD h_m_GREATEST_TOLD_MODULUS h_m_lcm h_m_NoSize h_m_NoRing h_m_NotDecided h_m_NoLag h_m_TooLong h_m_Form h_n_Form_slope h_n_Form_base h_m_Scheme h_n_Scheme_parts h_m_Belief h_n_Belief_lag h_n_Belief_modulus h_n_Belief_n h_m_RingError h_m_SizeSet h_n_SizeSet_period h_n_SizeSet_start h_n_SizeSet_early h_n_SizeSet_rests h_n_SizeSet_early_marks h_n_SizeSet_rest_marks h_m_has_outside h_m_is_whole h_m_is_whole_from h_m_is_word_of h_m_is_size h_m_check_size h_m_is_ascending h_m_check_parts h_m_least_start h_m_marks_of h_m_shortest h_m_common_parts h_m_form_at h_m_wrap_at h_m_modulus_of h_m_log_modulus h_m_check_lag h_m_belief_of h_m_short_modulus h_m_right_lags h_m_place_lags h_m_is_small_form h_m_is_full h_m_is_wrap h_m_is_part h_m_first_wrong h_m_l_mixed h_m_l_pool h_m_l_draw h_m_l_wide h_m_l_made h_m_l_power h_m_l_setting h_m_l_greater h_m_l_both_long h_m_law h_in_Form h_in_Scheme h_in_Belief h_in_SizeSet h_a1_SizeSet_start h_a1_SizeSet_period h_a_SizeSetu__containsu_ h_a_SizeSetu__leu_ h_a1_Scheme_wrap h_a1_Belief_believed h_a1_Belief_number_right h_a1_Belief_place_right h_a_Beliefu__boolu_ h_a1_Scheme_slot h_a1_Scheme_when h_ns_PART_WORDS_slot h_ns_PART_WORDS_empty h_ns_PART_WORDS_when h_a2_SizeSet_start h_a2_SizeSet_period h_a2_Scheme_wrap h_a2_Belief_believed h_a2_Belief_number_right h_a2_Belief_place_right h_a2_Scheme_slot h_a2_Scheme_when hK_PART_WORDS.at_ h_tq_PART_NAMES h_tq_PART_WORDS_slot hK_PART_WORDS.lit h_tq_PART_WORDS_empty h_tq_PART_WORDS_when h_tq_MEASURES h_tq_SIGNS h_tq_PLAIN_FULLS h_x_NoSize h_kp_NoSize h_sb_NoSize h_tc_NoSize h_x_NoRing h_kp_NoRing h_sb_NoRing h_tc_NoRing h_x_NotDecided h_kp_NotDecided h_sb_NotDecided h_tc_NotDecided h_x_NoLag h_kp_NoLag h_sb_NoLag h_tc_NoLag h_x_TooLong h_kp_TooLong h_sb_TooLong h_tc_TooLong h_pg_Form h_hd_Form h_po_Form h_sa_Form h_mk_Form h_ii_Form h_kp_Form h_ha_Form h_mo_Form h_hn_Form h_htk_Form h_kt_Form_Form h_kt_int_Form h_pg_Scheme h_hd_Scheme h_po_Scheme h_sa_Scheme h_mk_Scheme h_ii_Scheme h_kp_Scheme h_pg_Belief h_hd_Belief h_po_Belief h_sa_Belief h_mk_Belief h_ii_Belief h_kp_Belief h_pg_SizeSet h_hd_SizeSet h_po_SizeSet h_sa_SizeSet h_mk_SizeSet h_ii_SizeSet h_kp_SizeSet h_ha_SizeSet h_mo_SizeSet h_hn_SizeSet h_htk_SizeSet h_kt_SizeSet_SizeSet h_kt_tuple_SizeSet h_F_has_outside h_F_is_whole h_F_is_whole_from h_F_is_word_of h_F_is_size h_F_check_size h_F_is_ascending h_F_check_parts h_F_least_start h_F_marks_of h_F_shortest h_F_SizeSetu__initu_ h_F_SizeSet_start h_F_SizeSet_period h_F_SizeSetu__containsu_ h_F_common_parts h_F_SizeSetu__leu_ h_F_Formu__initu_ h_F_form_at h_F_Scheme_wrap h_F_wrap_at h_F_modulus_of h_F_Beliefu__initu_ h_F_Belief_believed h_F_Belief_number_right h_F_Belief_place_right h_F_Beliefu__boolu_ h_F_Scheme_slot h_F_Scheme_when h_F_log_modulus h_F_check_lag h_F_belief_of h_F_short_modulus h_F_right_lags h_F_place_lags h_F_is_small_form h_F_is_full h_F_is_wrap h_F_is_part h_F_first_wrong h_F_Schemeu__initu_ h_F_l_mixed h_F_l_pool h_F_l_draw h_F_l_wide h_F_l_made h_F_l_power h_F_l_setting h_F_l_greater h_F_l_both_long h_F_law h_pg_SizeSet_start h_pt_SizeSet_start h_pg_SizeSet_period h_pt_SizeSet_period h_i_SizeSetu__containsu_ h_i_SizeSetu__leu_ h_pg_Scheme_wrap h_pt_Scheme_wrap h_pg_Belief_believed h_pt_Belief_believed h_pg_Belief_number_right h_pt_Belief_number_right h_pg_Belief_place_right h_pt_Belief_place_right h_i_Beliefu__boolu_ h_pg_Scheme_slot h_pt_Scheme_slot h_pg_Scheme_when h_pt_Scheme_when h_nf_Form_Form h_nf_int_Form h_nf_SizeSet_SizeSet h_nf_tuple_SizeSet h_xm_NoSize_NoSize h_xm_NoRing_NoSize h_xm_NoRing_NoRing h_xm_NotDecided_NoSize h_xm_NotDecided_NoRing h_xm_NotDecided_NotDecided h_xm_NoLag_NoSize h_xm_NoLag_NoRing h_xm_NoLag_NotDecided h_xm_NoLag_NoLag h_xm_TooLong_TooLong
end Pk60
open PySem PySem.W PySem.Calls PyProof.Rows
set_option maxRecDepth 100000 in
set_option maxHeartbeats 0 in
theorem PySem.Challenge.cw_ringindexes_k60_sets_of_lags_holds : PySem.Challenge.rw_ringindexes_k60_sets_of_lags.Holds := by
  w_on; o_law
  refine HandSHeadRun.head_imp (r := Pk60.R) (q := (PySem.W.view Pk60.R.prog [0, 92])) (H := Pk60.hk) (ob := Pk60.ob) (M := 200000) (loose := Pk60.loose) (d := (HandSHeadRun.topDef Pk60.R.prog 92)) (kwd := []) Pk60.ob_is Pk60.run (by kernel_rfl) (by kernel_rfl) (by kernel_rfl) (by rfl) (by first | assumption | decide +kernel) (by decide +kernel) ⟨rfl, rfl, rfl, rfl, rfl, by decide +kernel⟩ ?hw ?hc
  case hw => w_witness2
  case hc =>
    refine L2.walk_ofE (l := PySem.Challenge.rw_ringindexes_k60_sets_of_lags) (n := 63) (k := 10) (x := "_law_script") (CX := L2.CX0) rfl (by decide) (by kernel_rfl) ⟨rfl, by decide, by decide⟩ ?F (fun _ _ _ _ z => z)
    intro w mg fa h Y G hmg0
    obtain ⟨K, KX, c⟩ := Y
    have hmg : mg ("law" : PySem.Str) = some (.ref fa) := by
      have e : (HandSHeadRun.topDef Pk60.R.prog 92).name = ("law" : PySem.Str) := by kernel_rfl
      rw [← e]
      exact hmg0
    obtain ⟨fd, hb, hF⟩ := Pk60.facts (P := PySem.Challenge.rw_ringindexes_k60_sets_of_lags) (w := w) KX G hmg c
    exact ⟨K, fd, Pk60.sp_law K, KX, hb, fun H a ns hl _ hS => ⟨a, ns, rfl, hS, hl, fun _ => rfl⟩, hF⟩
