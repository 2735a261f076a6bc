import PyProof.Rows.All
import Wide.All
import OpenK.AllK
import Wide.FinOn
import PyProof.EqAt
import PyProof.EqKinds
import PyProof.TupleCall
import PyProof.InstNe
import KE.RegKIsAll
import HandS.ForMost
import HandS.Wide
import HandS.IsInst
import HandS.OwnEq
import HandS.Star
import HandS.Property
import HandS.Defaults
import HandS.WordsExc
import HandS.ExcOwn
import HandS.TupLe
import HandS.SortKw
import KE.KMinBuiltin
import HandS.TryOnly
import HandS.ExcIs
import HandS.CallLocal
import HandS.Walk
import HandS.StrMore
import HandS.FStr
import HandS.NoneIn
import HandS.SetFor
import PyProof.StrLaws
import HandS.Small
import HandS.StrSplit
import HandS.MakeKwOnly
import HandS.More
import HandS.WideBits
import KE.KSortKey
import HandS.HotCalls
import HandS.TryMany
import HandS.Head0
import HandS.Head1
import HandS.Head2
import HandS.Head3
import HandS.HeadEnd
import HandS.HeadHook1
import HandS.HeadHook2
import HandS.HeadHook3
import PySem.Challenge.RW_ringindexes_k56_logs_beside_slots
set_option Elab.async false
set_option linter.all false
set_option maxRecDepth 100000
set_option maxHeartbeats 40000000
/-! ## steps of readings: each lemma opens one construct -/
namespace Rd
open PySem PySem.Spec PyProof.Rows L2

section
variable {σ : L2.St} {H : Hp} {Q : VK} {D : Ends} {K : PySem.W.Frag}
theorem seq {t u : TS} (h : t { D with nx := u D } σ H) : tSeq t u D σ H := h
theorem next (h : D.nx σ H) : tNext D σ H := h
theorem drop {te : TE} (h : te σ H fun _ H1 => D.nx σ H1) : tDrop te D σ H := h
theorem ret {te : TE} (h : te σ H D.rt) : tRet te D σ H := h
theorem retN (h : D.rt .non H) : tRetN D σ H := h
theorem brk (h : D.bk σ H) : tBreak D σ H := h
theorem cont (h : D.ct σ H) : tCont D σ H := h
theorem ifS {c : TT} {t u : TS} (h : c σ H fun b H1 => if b = true then t D σ H1 else u D σ H1) : tIfS c t u D σ H := h
theorem asg {te : TE} {g : TG} (h : te σ H fun x H1 => g x σ H1 D.nx) : tAsg te g D σ H := h
theorem name {i : Nat} {v : V} {q : L2.St → Hp → Prop} (h : q (σ.set i (some v)) H) : gName i v σ H q := h
theorem par {i j : Nat} {ta : TA} (h : ta σ H fun vs H1 => ∃ v w, vs = [v, w] ∧ D.nx ((σ.set i (some v)).set j (some w)) H1) : tPar i j ta D σ H := h
theorem par2 {i j : Nat} {v w : V} (h : D.nx ((σ.set i (some v)).set j (some w)) H) : ∃ v' w', [v, w] = [v', w'] ∧ D.nx ((σ.set i (some v')).set j (some w')) H := ⟨v, w, rfl, h⟩
theorem var {i : Nat} {v : V} (e : σ[i]? = some (some v)) (h : Q v H) : tVar i σ H Q := ⟨v, e, h⟩
theorem c {v : V} (h : Q v H) : tC v σ H Q := h
theorem op {r : R2} {ta tb : TE} (h : ta σ H fun x H1 => tb σ H1 fun y H2 => r x y H2 Q) : tOp r ta tb σ H Q := h
theorem un {r : V → Hp → VK → Prop} {ta : TE} (h : ta σ H fun x H1 => r x H1 Q) : tUn r ta σ H Q := h
theorem i0 {g : Int → Int → V} {i j : Int} (h : Q (g i j) H) : rI0 g (.int i) (.int j) H Q := ⟨i, j, rfl, rfl, h⟩
theorem iC {C : Int → Int → Prop} {g : Int → Int → V} {i j : Int} (e : C i j) (h : Q (g i j) H) : rI C g (.int i) (.int j) H Q := ⟨i, j, rfl, rfl, e, h⟩
theorem iU {g : Int → V} {i : Int} (h : Q (g i) H) : rU g (.int i) H Q := ⟨i, rfl, h⟩
theorem eqS {x y : V} (e : scal x y = true) (h : Q (.bl (decide (x = y))) H) : rEq x y H Q := ⟨e, h⟩
theorem neS {x y : V} (e : scal x y = true) (h : Q (.bl (!decide (x = y))) H) : rNe x y H Q := ⟨e, h⟩
theorem addS {i j : Str} (e : i.length + j.length ≤ sizeLine) (h : Q (.str (i ++ j)) H) : ∃ a b, V.str i = .str a ∧ V.str j = .str b ∧ a.length + b.length ≤ sizeLine ∧ Q (.str (a ++ b)) H := ⟨i, j, rfl, rfl, e, h⟩
theorem isN {x : V} (h : Q (.bl (decide (x = .non))) H) : V.non = .non ∧ Q (.bl (decide (x = .non))) H := ⟨rfl, h⟩
theorem notN {x : V} (h : Q (.bl (!decide (x = .non))) H) : V.non = .non ∧ Q (.bl (!decide (x = .non))) H := ⟨rfl, h⟩
theorem chain {r r' : R2} {ta tb tc : TE} (h : ta σ H fun x H1 => tb σ H1 fun y H2 => r x y H2 fun z H3 => ∃ k, z = .bl k ∧ (if k = true then tc σ H3 fun w' H4 => r' y w' H4 Q else Q (.bl false) H3)) : tChain r r' ta tb tc σ H Q := h
theorem bl {k : Bool} {A : Bool → Prop} (h : A k) : ∃ c, V.bl k = .bl c ∧ A c := ⟨k, rfl, h⟩
theorem test {t : TE} {q : Bool → Hp → Prop} (h : t σ H fun x H' => ∃ k, x = .bl k ∧ q k H') : tTest t σ H q := h
theorem tb {t : TE} {q : Bool → Hp → Prop} (h : t σ H fun x H' => ∃ k, x = .bl k ∧ q k H') : tB t σ H q := h
theorem and {t u : TT} {q : Bool → Hp → Prop} (h : t σ H fun c H1 => if c = true then u σ H1 q else q false H1) : tAnd t u σ H q := h
theorem or {t u : TT} {q : Bool → Hp → Prop} (h : t σ H fun c H1 => if c = true then q true H1 else u σ H1 q) : tOr t u σ H q := h
theorem not {t : TT} {q : Bool → Hp → Prop} (h : t σ H fun c H1 => q (!c) H1) : tNot t σ H q := h
theorem andV {ta tb : TE} (h : ta σ H fun x H1 => ∃ c, x = .bl c ∧ if c = true then tb σ H1 Q else Q (.bl false) H1) : tAndV ta tb σ H Q := h
theorem orV {ta tb : TE} (h : ta σ H fun x H1 => ∃ c, x = .bl c ∧ if c = true then Q (.bl true) H1 else tb σ H1 Q) : tOrV ta tb σ H Q := h
theorem notV {ta : TE} (h : ta σ H fun x H1 => ∃ c, x = .bl c ∧ Q (.bl (!c)) H1) : tNotV ta σ H Q := h
theorem ifE {t : TT} {ta tb : TE} (h : t σ H fun c H1 => if c = true then ta σ H1 Q else tb σ H1 Q) : tIf t ta tb σ H Q := h
theorem nil {q : List V → Hp → Prop} (h : q [] H) : tNil σ H q := h
theorem cons {ta : TE} {tr : TA} {q : List V → Hp → Prop} (h : ta σ H fun x H1 => tr σ H1 fun xs H2 => q (x :: xs) H2) : tCons ta tr σ H q := h
theorem cB {r : List V → Hp → VK → Prop} {t : TA} (h : t σ H fun vs H1 => r vs H1 Q) : tCB r t σ H Q := h
theorem tup {t : TA} (h : t σ H fun xs H1 => xs.length ≤ sizeLine ∧ ∀ p, H1 p = none → Q (.ref p) (upd H1 p (.tup xs))) : tTup t σ H Q := h
theorem lst {t : TA} (h : t σ H fun xs H1 => xs.length ≤ sizeLine ∧ ∀ p, H1 p = none → Q (.ref p) (upd H1 p (.lst xs))) : tLst t σ H Q := h
theorem laid {xs : List V} {A : Addr → Prop} (e : xs.length ≤ 1000) (h : ∀ p, H p = none → A p) : xs.length ≤ sizeLine ∧ ∀ p, H p = none → A p := ⟨Nat.le_of_lt (small1000 e), h⟩
theorem call {sp : Sp} {dvs : List V} {E : XK} {t : TA} (h : t σ H fun vs H1 => sp (vs ++ dvs) H1 Q E) : tCall sp dvs E t σ H Q := h
theorem meth {C : Addr} {m : Str} {sp : Sp} {dvs : List V} {E : XK} {ta : TE} {t : TA} (h : ta σ H fun x H1 => ∃ a dx fs, x = .ref a ∧ H1 a = some (.ins C dx fs) ∧ fs.lookup m = none ∧ t σ H1 fun vs H2 => sp (x :: (vs ++ dvs)) H2 Q E) : tMeth C m sp dvs E ta t σ H Q := h
theorem meth2 {C a dx : Addr} {fs : List (Str × V)} {m : Str} {A : Prop} (e : H a = some (.ins C dx fs)) (l : fs.lookup m = none) (h : A) : ∃ a' dx fs, V.ref a = .ref a' ∧ H a' = some (.ins C dx fs) ∧ fs.lookup m = none ∧ A := ⟨a, dx, fs, rfl, e, l, h⟩
theorem make {C : Addr} {sp : Sp} {dvs : List V} {E : XK} {t : TA} (h : t σ H fun vs H1 => ∀ x dx, H1 x = none → H1 dx = none → dx ≠ x → sp (.ref x :: (vs ++ dvs)) (upd (upd H1 dx (.own x)) x (.ins C dx [])) (fun v H2 => v = .non ∧ Q (.ref x) H2) E) : tMake C sp dvs E t σ H Q := h
theorem fld {ta : TE} {f : Str} (h : ta σ H fun x H1 => ∃ a C dx fs v, x = .ref a ∧ H1 a = some (.ins C dx fs) ∧ Cls K C ∧ NoAttr K C f ∧ fs.lookup f = some v ∧ Q v H1) : tFld K ta f σ H Q := h
theorem fld2 {f : Str} {a C dx : Addr} {fs : List (Str × V)} {v : V} (e : H a = some (.ins C dx fs)) (k : Cls K C) (n : NoAttr K C f) (l : fs.lookup f = some v) (h : Q v H) :
    ∃ a' C' dx fs v, V.ref a = .ref a' ∧ H a' = some (.ins C' dx fs) ∧ Cls K C' ∧ NoAttr K C' f ∧ fs.lookup f = some v ∧ Q v H := ⟨a, C, dx, fs, v, rfl, e, k, n, l, h⟩
theorem sfld {ta tv : TE} {f : Str} (h : tv σ H fun y H1 => ta σ H1 fun x H2 => ∃ a C dx fs, x = .ref a ∧ H2 a = some (.ins C dx fs) ∧ Cls K C ∧ NoAttr K C f ∧ fs.length < 1000 ∧ D.nx σ (upd H2 a (.ins C dx (putF f y fs)))) : sFld K ta tv f D σ H := h
theorem gnil {q : L2.St → Hp → Prop} (h : q σ H) : gNil [] σ H q := ⟨rfl, h⟩
theorem gcons {t : TG} {u : TGs} {v : V} {r : List V} {q : L2.St → Hp → Prop} (h : t v σ H fun σ' H' => u r σ' H' q) : gCons t u (v :: r) σ H q := ⟨v, r, rfl, h⟩
theorem gtup {n : Nat} {t : TGs} {a : Addr} {xs : List V} {q : L2.St → Hp → Prop} (e : SqT K H a xs) (l : xs.length = n) (h : t xs σ H q) : gTup K n t (.ref a) σ H q := ⟨a, xs, rfl, e, l, h⟩
theorem fr {wi : TI} {g : TG} {tb : TS} (h : wi σ H fun J H1 => ∃ W : Nat → Nat → L2.St → Hp → Prop, (∃ m, W 0 m σ H1) ∧ ∀ i m σ H, W i m σ H →
    (J.stop i H ∧ D.nx σ H) ∨ (J.go i H ∧ ∃ N : L2.St → Hp → Prop, (∀ σ' H', N σ' H' → ∃ m', m' < m ∧ W (i + 1) m' σ' H') ∧ ∀ x H', J.yld i H x H' → g x σ H' fun σ2 H2 => tb { D with nx := N, ct := N, bk := D.nx } σ2 H2)) : tFor wi g tb D σ H := h
theorem rng1 {ta : TA} {R : It → Hp → Prop} (h : ta σ H fun vs H1 => ∃ j : Int, vs = [.int j] ∧ -(2 ^ 62) ≤ j ∧ j < 2 ^ 62 ∧ R (Itr 0 j.toNat) H1) : iRng1 ta σ H R := h
theorem prop {C : Addr} {sp : Sp} {dvs : List V} {E : XK} {ta : TE} (h : ta σ H fun x H1 => ∃ a dx fs, x = .ref a ∧ H1 a = some (.ins C dx fs) ∧ sp (.ref a :: dvs) H1 Q E) : tProp C sp dvs E ta σ H Q := h
theorem aug {i : Nat} {te : TE} {ti : TIp} {x : V} (e : σ[i]? = some (some x)) (h : te σ H fun y H1 => ti x y H1 fun z H2 => D.nx (σ.set i (some z)) H2) : tAug i te ti D σ H := ⟨x, e, h⟩
theorem ipI {f : Int → Int → Int} {i j : Int} (h : Q (.int (f i j)) H) : L2.ipI f (.int i) (.int j) H Q := ⟨i, j, rfl, rfl, h⟩
theorem ixL {a : Addr} {xs : List V} {i : Int} {v : V} (e : SqL K H a xs) (l : atI xs i = some v) (h : Q v H) : rIxL K (.ref a) (.int i) H Q := ⟨a, xs, i, v, rfl, rfl, e, l, h⟩
theorem ixT {a : Addr} {xs : List V} {i : Int} {v : V} (e : SqT K H a xs) (l : atI xs i = some v) (h : Q v H) : rIxT K (.ref a) (.int i) H Q := ⟨a, xs, i, v, rfl, rfl, e, l, h⟩
theorem setL {a : Addr} {xs : List V} {k : Int} {j : Nat} {v : V} {q : Hp → Prop} (e : H a = some (.lst xs)) (l : ixN xs.length k = some j) (h : q (upd H a (.lst (xs.set j v)))) : rSetL (.ref a) (.int k) v H q := ⟨a, xs, k, j, rfl, rfl, e, l, h⟩
theorem sub {to ti : TE} {t : TSet} {v : V} {q : L2.St → Hp → Prop} (h : to σ H fun o H1 => ti σ H1 fun i H2 => t o i v H2 fun H3 => q σ H3) : gSub to ti t v σ H q := h
theorem lenQ {a : Addr} {xs : List V} (e : SqL K H a xs ∨ SqT K H a xs) (h : Q (.int xs.length) H) : ∃ p ys, [V.ref a] = [.ref p] ∧ (SqL K H p ys ∨ SqT K H p ys) ∧ Q (.int ys.length) H := ⟨a, xs, rfl, e, h⟩
theorem absI {i : Int} (h : Q (.int (if i < 0 then -i else i)) H) : ∃ j, [V.int i] = [.int j] ∧ Q (.int (if j < 0 then -j else j)) H := ⟨i, rfl, h⟩
theorem intI {i : Int} (h : Q (.int i) H) : (∃ j, [V.int i] = [.int j] ∧ Q (.int j) H) ∨ ∃ k, [V.int i] = [.bl k] ∧ Q (.int (if k then 1 else 0)) H := .inl ⟨i, rfl, h⟩
theorem ite {c A B : Prop} [Decidable c] (h1 : c → A) (h2 : ¬ c → B) : if c then A else B := by
  by_cases h : c
  · rw [if_pos h]; exact h1 h
  · rw [if_neg h]; exact h2 h
theorem iteT {b : Bool} {A B : Prop} (e : b = true) (h : A) : if b = true then A else B := by rw [if_pos e]; exact h
theorem iteF {b : Bool} {A B : Prop} (e : b = false) (h : B) : if b = true then A else B := by rw [e]; exact h
theorem andB {c d : Bool} {t : TE} (h1 : ∀ Q' : VK, Q' (.bl d) H → t σ H Q') (h : Q (.bl (c && d)) H) : if c = true then t σ H Q else Q (.bl false) H := by
  cases c with
  | true => exact h1 Q h
  | false => exact h
theorem orB {c d : Bool} {t : TE} (h1 : ∀ Q' : VK, Q' (.bl d) H → t σ H Q') (h : Q (.bl (c || d)) H) : if c = true then Q (.bl true) H else t σ H Q := by
  cases c with
  | true => exact h
  | false => exact h1 Q h
end
theorem lput {f : Str} {v : V} {fs : List (Str × V)} {n : Nat} (h : fs.length + 1 < n) : (putF f v fs).length < n := Nat.lt_of_le_of_lt (by have := length_putF f v fs; omega) h
theorem lputs {f : Str} {v : V} {fs : List (Str × V)} {n k : Nat} (h : fs.length + (k + 1) < n) : (putF f v fs).length + k < n := Nat.lt_of_le_of_lt (by have := length_putF f v fs; omega) h
theorem ty_tup {K : PySem.W.Frag} {H : Hp} {a : Addr} {xs : List V} (e : H a = some (.tup xs)) : TyX K H (.ref a) (.type "tuple") := .base (.tup e)
theorem ty_lst {K : PySem.W.Frag} {H : Hp} {a : Addr} {xs : List V} (e : H a = some (.lst xs)) : TyX K H (.ref a) (.type "list") := .base (.lst e)
section
variable {K : PySem.W.Frag}
theorem kit_int_int : PySem.W.kitOne K (.type "int") (.type "int") = some true := kit_ty (by decide +kernel)
theorem kit_bool_int : PySem.W.kitOne K (.type "bool") (.type "int") = some true := kit_ty (by decide +kernel)
theorem kit_str_int : PySem.W.kitOne K (.type "str") (.type "int") = some false := kit_ty (by decide +kernel)
theorem kit_none_int : PySem.W.kitOne K (.type "NoneType") (.type "int") = some false := kit_ty (by decide +kernel)
theorem kit_tuple_int : PySem.W.kitOne K (.type "tuple") (.type "int") = some false := kit_ty (by decide +kernel)
theorem kit_list_int : PySem.W.kitOne K (.type "list") (.type "int") = some false := kit_ty (by decide +kernel)
theorem kit_dict_int : PySem.W.kitOne K (.type "dict") (.type "int") = some false := kit_ty (by decide +kernel)
theorem kit_int_bool : PySem.W.kitOne K (.type "int") (.type "bool") = some false := kit_ty (by decide +kernel)
theorem kit_bool_bool : PySem.W.kitOne K (.type "bool") (.type "bool") = some true := kit_ty (by decide +kernel)
theorem kit_str_bool : PySem.W.kitOne K (.type "str") (.type "bool") = some false := kit_ty (by decide +kernel)
theorem kit_str_str : PySem.W.kitOne K (.type "str") (.type "str") = some true := kit_ty (by decide +kernel)
theorem kit_int_str : PySem.W.kitOne K (.type "int") (.type "str") = some false := kit_ty (by decide +kernel)
end
end Rd


/-! ## the operators of own classes, as rules of the layer -/
namespace Own
open PySem PySem.Spec PyProof.Rows L2
section
variable {X : Cx} {pins : List (Addr × Obj)} {σ : L2.St} {H : Hp} {s : Shared}
/-- a value of the layer is never the sign of a declined operator -/
theorem not_declined {v : V} {u : Value} (r : RelV v u) : u ≠ .notImplemented := by
  intro e
  subst e
  cases v with
  | non => cases (show Value.notImplemented = Value.none from r)
  | bl b => cases (show Value.notImplemented = Value.bool b from r)
  | int i => obtain ⟨t, q⟩ := (show ∃ t, Value.notImplemented = Value.int i t from r); cases q
  | str i => obtain ⟨t, q⟩ := (show ∃ t, Value.notImplemented = Value.str i t from r); cases q
  | byt i => obtain ⟨t, q⟩ := (show ∃ t, Value.notImplemented = Value.bytes i t from r); cases q
  | flt i => obtain ⟨t, q⟩ := (show ∃ t, Value.notImplemented = Value.float i t from r); cases q
  | ref a => cases (show Value.notImplemented = Value.ref a from r)
  | ty n => cases (show Value.notImplemented = Value.type n from r)
theorem back {M : Model} {A : Around} {E : Value → Shared → Prop} {m : Sem Value} {Q : VK} (h : wpAny M A m (EP X pins σ Q) E s) : wpAny M A m (PySem.W.CmpBack (EP X pins σ Q)) E s :=
  wpAny_mono h (fun u s' q => by
    have n : u ≠ .notImplemented := by
      obtain ⟨z, H', I, r, _⟩ := q
      exact not_declined r
    cases u <;> first | exact q | exact absurd rfl n) fun _ _ e => e
/-- an instance as the library's rules ask for it -/
theorem inst {a C dx : Addr} {fs : List (Str × V)} (I : Inv X pins σ H s) (h : H a = some (.ins C dx fs)) : ∃ od, PySem.W.InstAt s.heap a (PySem.W.instObj C dx) C od := by
  obtain ⟨mA, J, _⟩ := ins_get I.hok h
  obtain ⟨od, J, _⟩ := J.look
  exact ⟨_, J⟩
/-- the type of any value, told without a step that matters -/
theorem typed {M : Model} {x : V} {u : Value} {t : Value} (I : Inv X pins σ H s) (r : RelV x u) (ty : TyX X.K H x t) : PySem.W.Looks M s.heap (typeOf u) t := by
  obtain ⟨P, Z, p, _⟩ := kit_of I r ty
  exact Z.ty M s.heap I.kIn p
end

/-- an own method behind an operator -/
structure Sp1 (K : PySem.W.Frag) (C : Addr) (m : Str) (f : Addr) : Prop where
  at_ : PySem.W.findIn K (.ref C) m = some (some (.ref f))
  fn : PySem.W.isFn K (.ref f) = true
/-- a two-place operator of an own class -/
structure Bin (K : PySem.W.Frag) (C f : Addr) (op : Operator) : Prop where
  first : PySem.W.selfFirst K C = true
  at_ : PySem.W.findIn K (.ref C) (PySem.dunder op.info.2) = some (some (.ref f))
  fn : PySem.W.isFn K (.ref f) = true
/-- .. beside a value of the built-in type T -/
structure BinT (K : PySem.W.Frag) (C f : Addr) (op : Operator) (T : String) : Prop where
  b : Bin K C f op
  r : ∃ rc, PySem.W.findIn K (.ref C) (dunderR op.info.2) = some rc ∧ (rc = none ∨ ∃ g : Addr, rc = some (.ref g))
  l1 : ∃ fo, PySem.W.findIn K (.type T) (PySem.dunder op.info.2) = some fo
  l2 : ∃ ro, PySem.W.findIn K (.type T) (dunderR op.info.2) = some ro
  sub : PySem.W.subIn K (.type T) (.ref C) = some false

def rSame (C : Addr) (sp : Sp) (E : XK) : R2 := fun x y H Q => ∃ a b dx dy fs gs, x = .ref a ∧ y = .ref b ∧ H a = some (.ins C dx fs) ∧ H b = some (.ins C dy gs) ∧ sp [.ref a, .ref b] H Q E
def rLeft (C : Addr) (T : String) (sp : Sp) (E : XK) : R2 := fun x y H Q => ∃ a dx fs, x = .ref a ∧ H a = some (.ins C dx fs) ∧ (∀ u, RelV y u → typeOf u = pure (.type T)) ∧ sp [.ref a, y] H Q E
def rCmp (K : PySem.W.Frag) (C : Addr) (sp : Sp) (E : XK) : R2 := fun x y H Q => ∃ a dx fs t, x = .ref a ∧ H a = some (.ins C dx fs) ∧ TyX K H y t ∧ PySem.W.notFirst K C t = true ∧ sp [.ref a, y] H Q E
def rOne (C : Addr) (sp : Sp) (E : XK) : V → Hp → VK → Prop := fun x H Q => ∃ a dx fs, x = .ref a ∧ H a = some (.ins C dx fs) ∧ sp [.ref a] H Q E

section
variable {X : Cx} {CX : CXT} {k : Nat} {f C : Addr} {fd : FuncData} {ps : List Str} {sp : Sp} {E : XK} {op : Operator} {cop : CmpOp} {T : String}
theorem run2 {pins : List (Addr × Obj)} {σ : L2.St} {H : Hp} {s : Shared} {Q : VK} {x y : V} {u v : Value} (F : FnOk X.prog X.w X.K X.mg X.base CX k f fd ps sp) (hr : Room k X.A) (hb : Binds X.K fd ps []) (hx : Passes CX X E)
    (I : Inv X pins σ H s) (rx : RelV x u) (ry : RelV y v) (h : sp [x, y] H Q E) : wpAny (model X.prog X.w) X.A (call (.ref f) [u, v]) (EP X pins σ Q) X.xe s :=
  run_fn (us := [u, v]) (vs := [x, y]) F hr hb .nil hx I (.cons rx (.cons ry .nil)) h
theorem opS (F : FnOk X.prog X.w X.K X.mg X.base CX k f fd ps sp) (hr : Room k X.A) (B : Bin X.K C f op) (hb : Binds X.K fd ps []) (hx : Passes CX X E) : OpR X (binaryOp op) (rSame C sp E) := by
  rintro pins s σ H x y u v Q I rx ry ⟨a, b, dx, dy, fs, gs, rfl, rfl, ha, hb', q⟩
  cases rx
  cases ry
  obtain ⟨od, J⟩ := inst I ha
  obtain ⟨od', J'⟩ := inst I hb'
  obtain ⟨m, hF⟩ := I.fr
  exact PySem.W.binop_K hF I.ok.mod.kin J J'.type B.first B.at_ B.fn (back (run2 (x := .ref a) (y := .ref b) F hr hb hx I rfl rfl q))
theorem opT (F : FnOk X.prog X.w X.K X.mg X.base CX k f fd ps sp) (hr : Room k X.A) (B : BinT X.K C f op T) (hb : Binds X.K fd ps []) (hx : Passes CX X E) : OpR X (binaryOp op) (rLeft C T sp E) := by
  rintro pins s σ H x y u v Q I rx ry ⟨a, dx, fs, rfl, ha, ty, q⟩
  cases rx
  obtain ⟨od, J⟩ := inst I ha
  obtain ⟨m, hF⟩ := I.fr
  obtain ⟨⟨b1, b2, b3⟩, ⟨rc, r1, r2⟩, ⟨fo, l1⟩, ⟨ro, l2⟩, sb⟩ := B
  exact PySem.W.ksp_binT hF I.ok.mod.kin J (ty _ ry) b1 b2 b3 r1 r2 l1 l2 sb (back (run2 (x := .ref a) F hr hb hx I rfl ry q))
theorem iopT (F : FnOk X.prog X.w X.K X.mg X.base CX k f fd ps sp) (hr : Room k X.A) (h1 : PySem.W.selfFirst X.K C = true) (h2 : Sp1 X.K C (dunderI op.info.2) f) (hb : Binds X.K fd ps []) (hx : Passes CX X E) :
    OpR X (inplaceOp op) (fun x y H Q => ∃ a dx fs, x = .ref a ∧ H a = some (.ins C dx fs) ∧ sp [.ref a, y] H Q E) := by
  rintro pins s σ H x y u v Q I rx ry ⟨a, dx, fs, rfl, ha, q⟩
  cases rx
  obtain ⟨od, J⟩ := inst I ha
  obtain ⟨m, hF⟩ := I.fr
  exact PySem.W.ksp_inplace hF I.ok.mod.kin J h1 h2.at_ h2.fn (back (run2 (x := .ref a) F hr hb hx I rfl ry q))
theorem neg (F : FnOk X.prog X.w X.K X.mg X.base CX k f fd ps sp) (hr : Room k X.A) (B : Sp1 X.K C "__neg__" f) (hb : Binds X.K fd ps []) (hx : Passes CX X E) : UnR X (unaryOp .USub) (rOne C sp E) := by
  rintro pins s σ H x u Q I rx ⟨a, dx, fs, rfl, ha, q⟩
  cases rx
  obtain ⟨od, J⟩ := inst I ha
  obtain ⟨m, hF⟩ := I.fr
  exact PySem.W.ksp_neg hF I.ok.mod.kin J B.at_ B.fn (run_fn (us := [.ref a]) (vs := [.ref a]) F hr hb .nil hx I (.cons rfl .nil) q)
theorem cmp (F : FnOk X.prog X.w X.K X.mg X.base CX k f fd ps sp) (hr : Room k X.A) (B : Sp1 X.K C (cmpInfo cop).2.1 f) (hb : Binds X.K fd ps []) (hx : Passes CX X E)
    (ho : ∀ a b, compareOp cop a b = richCompare cop a b := by intro _ _; rfl) : OpR X (compareOp cop) (rCmp X.K C sp E) := by
  rintro pins s σ H x y u v Q I rx ry ⟨a, dx, fs, t, rfl, ha, ty, nf, q⟩
  cases rx
  obtain ⟨od, J⟩ := inst I ha
  obtain ⟨m, hF⟩ := I.fr
  rw [ho]
  exact PySem.W.cmp_K hr.units0 hF I.ok.mod.kin J (typed I ry ty) nf B.at_ B.fn (back (run2 (x := .ref a) F hr hb hx I rfl ry q))
/-- o[i] by the own __getitem__ -/
theorem item (F : FnOk X.prog X.w X.K X.mg X.base CX k f fd ps sp) (hr : Room k X.A) (B : Sp1 X.K C "__getitem__" f) (hq : PySem.W.noSeq X.K C = true) (hb : Binds X.K fd ps []) (hx : Passes CX X E) :
    OpR X getItem (fun x y H Q => ∃ a dx fs, x = .ref a ∧ H a = some (.ins C dx fs) ∧ sp [.ref a, y] H Q E) := by
  rintro pins s σ H x y u v Q I rx ry ⟨a, dx, fs, rfl, ha, q⟩
  cases rx
  obtain ⟨od, J⟩ := inst I ha
  obtain ⟨m, hF⟩ := I.fr
  exact PySem.W.getItem_K hF I.ok.mod.kin J hq B.at_ B.fn (run2 (x := .ref a) F hr hb hx I rfl ry q)
/-- x in o by the own __contains__, which gives a bool -/
theorem isin (F : FnOk X.prog X.w X.K X.mg X.base CX k f fd ps sp) (hr : Room k X.A) (B : Sp1 X.K C "__contains__" f) (hb : Binds X.K fd ps []) (hx : Passes CX X E) :
    OpR X (compareOp .In) (fun x y H Q => ∃ a dx fs, y = .ref a ∧ H a = some (.ins C dx fs) ∧ sp [.ref a, x] H (fun v H' => ∃ b, v = .bl b ∧ Q (.bl b) H') E) := by
  rintro pins s σ H x y u v Q I rx ry ⟨a, dx, fs, rfl, ha, q⟩
  cases ry
  obtain ⟨od, J⟩ := inst I ha
  obtain ⟨m, hF⟩ := I.fr
  refine PySem.W.in_K hF I.ok.mod.kin J B.at_ B.fn (wpAny_mono (run2 (x := .ref a) F hr hb hx I rfl rx q) (fun r s' hq => ?_) fun _ _ e => e)
  obtain ⟨z, H', I', rz, b, rfl, q'⟩ := hq
  cases rz
  exact wpAny_truthy_bool ⟨.bl b, H', I', rfl, q'⟩
/-- truth by the own __bool__ -/
theorem truth (F : FnOk X.prog X.w X.K X.mg X.base CX k f fd ps sp) (hr : Room k X.A) (B : Sp1 X.K C "__bool__" f) (hb : Binds X.K fd ps []) (hx : Passes CX X E) :
    TruR X (fun x H Q => ∃ a dx fs, x = .ref a ∧ H a = some (.ins C dx fs) ∧ sp [.ref a] H (fun v H' => ∃ b, v = .bl b ∧ Q b H') E) := by
  rintro pins s σ H x u Q I rx ⟨a, dx, fs, rfl, ha, q⟩
  cases rx
  obtain ⟨od, J⟩ := inst I ha
  obtain ⟨m, hF⟩ := I.fr
  refine PySem.W.truthy_K hF I.ok.mod.kin J B.at_ B.fn (wpAny_mono (run_fn (us := [.ref a]) (vs := [.ref a]) F hr hb .nil hx I (.cons rfl .nil) q) (fun r s' hq => ?_) fun _ _ e => e)
  obtain ⟨z, H', I', rz, b, rfl, q'⟩ := hq
  cases rz
  exact ⟨H', I', q'⟩
end
end Own
/-! ## int op own: the reflected operator; != by the inherited rule over the own ==; len; a call of an instance -/
namespace Own
open PySem PySem.Spec PyProof.Rows
section
variable {prog : Program} {w : World} {A : Around} {E : Value → Shared → Prop} {s : Shared} {K : PySem.W.Frag} {x C dx f : Addr} {od : Option Obj}
theorem decl_add {i : Int} {t : Tok} {Q : Shared → Prop} (h : s.heap.get? x = some (PySem.W.instObj C dx)) (hq : Q s) :
    wpAny (model prog w) A (Builtin.«int.__add__» ⟨[.int i t, .ref x], []⟩) (fun fin s' => ∃ v, fin = .done (.ret v) ∧ v = .notImplemented ∧ Q s') E s := by
  obtain ⟨hp, g, d, tk, os⟩ := s
  wp_walk using wpAny_load h
  exact ⟨_, rfl, rfl, hq⟩
theorem decl_sub {i : Int} {t : Tok} {Q : Shared → Prop} (h : s.heap.get? x = some (PySem.W.instObj C dx)) (hq : Q s) :
    wpAny (model prog w) A (Builtin.«int.__sub__» ⟨[.int i t, .ref x], []⟩) (fun fin s' => ∃ v, fin = .done (.ret v) ∧ v = .notImplemented ∧ Q s') E s := by
  obtain ⟨hp, g, d, tk, os⟩ := s
  wp_walk using wpAny_load h
  exact ⟨_, rfl, rfl, hq⟩
theorem decl_mul {i : Int} {t : Tok} {Q : Shared → Prop} (h : s.heap.get? x = some (PySem.W.instObj C dx)) (hq : Q s) :
    wpAny (model prog w) A (Builtin.«int.__mul__» ⟨[.int i t, .ref x], []⟩) (fun fin s' => ∃ v, fin = .done (.ret v) ∧ v = .notImplemented ∧ Q s') E s := by
  obtain ⟨hp, g, d, tk, os⟩ := s
  wp_walk using wpAny_load h
  exact ⟨_, rfl, rfl, hq⟩
end
end Own
namespace Own
open PySem PySem.Spec PyProof.Rows
section
variable {prog : Program} {w : World} {A : Around} {E : Value → Shared → Prop} {s : Shared} {K : PySem.W.Frag} {x C dx f f0 : Addr} {od : Option Obj} {op : Operator} {id : String}
/-- an int declines an operator beside an instance, then the instance's reflected one is asked -/
theorem binR {i : Int} {t : Tok} {Q : Value → Shared → Prop} (KX : K.In s.heap) (I : PySem.W.InstAt s.heap x (PySem.W.instObj C dx) C od) (hc : PySem.W.selfFirst K C = true)
    (h0 : PySem.W.findIn K (.ref C) (PySem.dunder op.info.2) = some (some (.ref f0))) (h1 : PySem.W.findIn K (.ref C) (dunderR op.info.2) = some (some (.ref f))) (hf : PySem.W.isFn K (.ref f) = true)
    (hsub : PySem.W.subIn K (.ref C) (.type "int") = some false) (hfill : fillsNumberSlot (.type "int") op.info.2 = pure true) (slot : Slot "int" (PySem.dunder op.info.2) id)
    (decl : wpAny (model prog w) A (call (.builtin id) [.int i t, .ref x]) (fun v s' => v = .notImplemented ∧ s'.heap = s.heap ∧ s'.gens = s.gens ∧ s'.drawn = s.drawn ∧ s'.os = s.os ∧ s'.toks = s.toks) E s)
    (h : wpAny (model prog w) A (call (.ref f) [.ref x, .int i t]) (PySem.W.CmpBack Q) E s) : wpAny (model prog w) A (binaryOp op (.int i t) (.ref x)) Q E s := by
  obtain ⟨cd, rest, hcd, hm⟩ := PySem.W.ksp_first hc
  rcases hi : op.info with ⟨sym, nm⟩
  rw [hi] at h0 h1 hfill slot
  dsimp only at h0 h1 hfill slot
  have two := PySem.W.ksp_try KX I h1 hf h
  obtain ⟨hh, g, d, tt, os⟩ := s
  have L1 : PySem.W.Looks (model prog w) hh (typeOf (.ref x)) (.ref C) := I.type
  have L3 : PySem.W.Looks (model prog w) hh (fillsNumberSlot (.ref C) nm) true := PySem.W.fills_K KX hcd hm h0
  have L5 : PySem.W.Looks (model prog w) hh (isSubtype (.ref C) (.type "int")) false := PySem.W.looks_subIn KX hsub
  have hne : (Value.type "int" == Value.ref C) = false := Bool.eq_false_iff.mpr fun q => by cases beq_iff_eq.mp q
  have hpy : numberSlotInPython (.type "int") nm = pure false := rfl
  have one : wpAny (model prog w) A (tryMethod (.int i t) (PySem.dunder nm) (.ref x)) (fun r s' => r = none ∧ s'.heap = hh ∧ s'.gens = g ∧ s'.drawn = d ∧ s'.os = os ∧ s'.toks = tt) E ⟨hh, g, d, tt, os⟩ :=
    wpAny_tryMethod_declines (T := "int") (typeIs_int _ i t) slot (wpAny_mono decl (fun v s' q => ⟨q.1, rfl, q.2⟩) fun _ _ e => e)
  simp only [binaryOp, hi]
  refine wpAny_holding (wpAny_bind ?_)
  unfold binaryOp1
  refine wpAny_bind (wpAny_typeOf (typeIs_int _ i t) (wpAny_bind (L1.at (wpAny_bind (wpAny_of_eq hfill ?_)))))
  simp only [hne, Bool.false_eq_true, if_false]
  refine wpAny_bind (L3.at ?_)
  simp only [Bool.and_self, if_true]
  refine wpAny_bind (L5.at ?_)
  simp only [Bool.false_eq_true, if_false, pure_bind, Bool.not_false, Bool.and_self, if_true, hpy]
  refine wpAny_bind (wpAny_mono one (fun r s' q => ?_) fun _ _ e => e)
  obtain ⟨h1, g1, d1, t1, o1⟩ := s'
  obtain ⟨rfl, q1, q2, q3, q4, q5⟩ := q
  dsimp only at q1 q2 q3 q4 q5
  subst q1 q2 q3 q4 q5
  dsimp only
  refine wpAny_bind (wpAny_mono two (fun r s' q => ?_) fun _ _ e => e)
  obtain ⟨v, rfl, q⟩ := q
  exact wpAny_bind (wpAny_rule (wpAny_pure (wpAny_pure q)))
end
end Own
namespace Own
open PySem PySem.Spec PyProof.Rows
theorem slot_ne : Slot "object" "__ne__" "object.__ne__" :=
  .of (T := "object") (name := "__ne__") (owner := "object") (n := "__ne__") (by rw [typeLookup_type, builtinLookup_eq_fast]; kernel_rfl) (by decide +kernel) (by decide +kernel) (by decide +kernel)
    (.inl (by decide +kernel)) (by rw [isSubtype_type]; kernel_rfl)
section
variable {prog : Program} {w : World} {A : Around} {E : Value → Shared → Prop} {s : Shared} {K : PySem.W.Frag} {x C dx f : Addr} {od : Option Obj} {b tb : Value}
theorem check_ne {M : Model} {Q : Unit → Shared → Prop} (I : PySem.W.InstAt s.heap x (PySem.W.instObj C dx) C od) (KX : K.In s.heap) (ho : PySem.W.subIn K (.ref C) (.type "object") = some true) (h : Q () s) :
    wpAny M A (checkBuiltinCall "object.__ne__" ⟨[.ref x, b], []⟩) Q E s := by
  have ha : argsOk "object.__ne__" ⟨[.ref x, b], []⟩ := by unfold argsOk; kernel_rfl
  have L : PySem.W.Looks M s.heap (isSubtype (.ref C) (.type "object")) true := PySem.W.looks_subIn KX ho
  have at_ := I.at_
  obtain ⟨hp, g, d, t, os⟩ := s
  simp only [checkBuiltinCall, F.cmpKind_ne, F.cmpSplit_ne]
  refine wpAny_bind ?_
  unfold isInstance
  repeat (first | (with_reducible refine wpAny_loadPart_at at_ ?_) | (with_reducible refine L.at ?_) | wp_step)
  exact h
/-- != of an instance whose class has an own == alone -/
theorem ne_K {Q : Value → Shared → Prop} (hu : A.units + 1 < cLine) (KX : K.In s.heap) (I : PySem.W.InstAt s.heap x (PySem.W.instObj C dx) C od) (hb : PySem.W.Looks (model prog w) s.heap (typeOf b) tb) (hn : PySem.W.notFirst K C tb = true)
    (h0 : PySem.W.findIn K (.ref C) "__ne__" = some (some (.builtin "object.__ne__"))) (h1 : PySem.W.findIn K (.ref C) "__eq__" = some (some (.ref f))) (hf : PySem.W.isFn K (.ref f) = true) (ho : PySem.W.subIn K (.ref C) (.type "object") = some true)
    (h : wpAny (model prog w) A.in1 (call (.ref f) [.ref x, b]) (fun v s' => ∃ c, v = .bool c ∧ Q (.bool (!c)) s') E s) : wpAny (model prog w) A (richCompare .NotEq (.ref x) b) Q E s := by
  have eqc : wpAny (model prog w) A.in1 (callSpecialIfBound? (.ref x) (Str.ofString "__eq__") [b]) (fun r s' => ∃ c, r = some (.bool c) ∧ Q (.bool (!c)) s') E s :=
    PySem.W.ifBound_K KX I h1 hf (wpAny_mono h (fun v s' ⟨c, e, q⟩ => ⟨c, by rw [e], q⟩) fun _ _ e => e)
  have body : wpAny (model prog w) A.in1 (Builtin.«object.__ne__» ⟨[.ref x, b], []⟩) (fun fin s' => ∃ v, fin = .done (.ret v) ∧ ∃ c, v = .bool (!c) ∧ Q (.bool (!c)) s') E s := by
    obtain ⟨hp, g, d, t, os⟩ := s
    unfold Builtin.«object.__ne__»
    repeat (first
      | with_reducible refine wpAny_cRoomFor hu ?_
      | (refine wpAny_bind (m := callSpecialIfBound? (.ref x) (Str.ofString "__eq__") [b]) (wpAny_mono eqc (fun r s' hr => ?_) fun _ _ e => e))
      | wp_step)
    obtain ⟨c, rfl, q⟩ := hr
    repeat (first
      | exact ⟨_, rfl, c, rfl, q⟩
      | exact wpAny_pure ⟨_, rfl, c, rfl, q⟩
      | (refine wpAny_bind (m := truthy (.bool _)) (wpAny_truthy_bool ?_))
      | wp_step)
  have one : wpAny (model prog w) A (tryCompare (.ref x) (Str.ofString "__ne__") b) (fun r s' => ∃ c, r = some (.bool (!c)) ∧ Q (.bool (!c)) s') E s := by
    unfold tryCompare
    refine wpAny_bind ?_
    simp only [callSpecialIfBound?, bindSpecialIfBound?]
    refine wpAny_holding (wpAny_bind (wpAny_bind (wpAny_bind (I.type.here ((PySem.W.looks_findIn KX h0).here ?_)))))
    have last : wpAny (model prog w) A (call (.builtin "object.__ne__") ([.ref x] ++ [b]) >>= fun v => pure (some v)) (fun a s' => wpAny (model prog w) A (match a with | some .notImplemented | none => pure none | some v => pure (some v)) (fun r s' => ∃ c, r = some (.bool (!c)) ∧ Q (.bool (!c)) s') E s') E s := by
      refine wpAny_bind (wpAny_call (codeAny_call_builtin slot_ne.plain F.cmpEntry_ne (check_ne I KX ho (wpAny_mono body (fun fin s' hv => ?_) fun _ _ e => e))))
      obtain ⟨v, rfl, c, rfl, q⟩ := hv
      exact wpAny_pure (wpAny_pure ⟨c, rfl, q⟩)
    refine wpAny_bind (wpAny_askSetting (wpAny_ite ?_))
    simp only [slot_ne.bind]
    split
    · exact wpAny_bind (wpAny_pure (wpAny_pure last))
    · exact wpAny_tryCatch (wpAny_bind (wpAny_pure (wpAny_pure last)))
  unfold richCompare
  simp only [PySem.oneThing_ref]
  refine wpAny_holding (wpAny_bind (wpAny_cRoomFor (Nat.lt_of_succ_lt hu) ?_))
  rw [cmpInfo_NotEq]
  dsimp only
  refine wpAny_bind (I.type.here (wpAny_bind (hb.here ?_)))
  have tail : wpAny (model prog w) A (tryCompare (.ref x) (Str.ofString "__ne__") b) (fun r s' => ∃ v, r = some v ∧ Q v s') E s :=
    wpAny_mono one (fun r s' ⟨c, e, q⟩ => ⟨_, e, q⟩) fun _ _ e => e
  split
  · rename_i q
    have e : PySem.W.subIn K tb (.ref C) = some false := by
      rcases Bool.or_eq_true_iff.mp hn with e | e
      · rw [beq_iff_eq.mp e] at q; simp at q
      · exact beq_iff_eq.mp e
    refine wpAny_bind ((PySem.W.looks_subIn KX e).here ?_)
    simp only [Bool.false_eq_true, if_false]
    refine wpAny_bind (wpAny_mono tail (fun r s' z => ?_) fun _ _ e => e)
    obtain ⟨v, rfl, hq⟩ := z
    exact wpAny_pure hq
  · refine wpAny_bind (wpAny_pure ?_)
    simp only [Bool.false_eq_true, if_false]
    refine wpAny_bind (wpAny_mono tail (fun r s' z => ?_) fun _ _ e => e)
    obtain ⟨v, rfl, hq⟩ := z
    exact wpAny_pure hq
end
end Own
namespace Own
open PySem PySem.Spec PyProof.Rows L2
section
variable {X : Cx} {CX : CXT} {k : Nat} {f f0 C : Addr} {fd : FuncData} {ps : List Str} {sp : Sp} {E : XK} {op : Operator}
/-- a call one step further in -/
theorem runIn {pins : List (Addr × Obj)} {σ : L2.St} {H : Hp} {s : Shared} {Q : VK} {us : List Value} {vs : List V} (F : FnOk X.prog X.w X.K X.mg X.base CX k f fd ps sp) (hr : Room (k + 1) X.A) (hb : Binds X.K fd ps []) (hx : Passes CX X E)
    (I : Inv X pins σ H s) (r : Vals vs us) (h : sp vs H Q E) : wpAny (model X.prog X.w) X.A.in1 (PySem.call (.ref f) us) (EP X pins σ Q) X.xe s := by
  have hl : us.length = ps.length := by rw [← r.length]; exact F.len _ _ _ _ h
  have hb' := hb s us I.kIn (by simpa using hl)
  rw [List.append_nil] at hb'
  refine wpAny_call (codeAny_mono (F.run X.A.in1 X.stack s H ⟨us, []⟩ us vs Q E hr.in1 I.env0.in1 hb' r h) fun r s' hq => ?_)
  cases r with
  | error e => exact hx pins σ H s e s' I hq
  | ok fl =>
    cases fl with
    | ret u => exact I.after hq
    | next => exact False.elim hq
    | brk => exact False.elim hq
    | cont => exact False.elim hq
structure BinR (K : PySem.W.Frag) (C f : Addr) (op : Operator) : Prop where
  first : PySem.W.selfFirst K C = true
  l : ∃ f0 : Addr, PySem.W.findIn K (.ref C) (PySem.dunder op.info.2) = some (some (.ref f0))
  at_ : PySem.W.findIn K (.ref C) (dunderR op.info.2) = some (some (.ref f))
  fn : PySem.W.isFn K (.ref f) = true
  sub : PySem.W.subIn K (.ref C) (.type "int") = some false
def rRight (C : Addr) (sp : Sp) (E : XK) : R2 := fun x y H Q => ∃ i a dx fs, x = .int i ∧ y = .ref a ∧ H a = some (.ins C dx fs) ∧ sp [.ref a, .int i] H Q E
theorem opR_of {id : String} {B : Builtin} (hfill : fillsNumberSlot (.type "int") op.info.2 = pure true) (slot : Slot "int" (PySem.dunder op.info.2) id) (entry : entryFor table id = some B) (args : ∀ a b : Value, argsOk id ⟨[a, b], []⟩)
    (decl : ∀ {prog : Program} {w : World} {A : Around} {E : Value → Shared → Prop} {s : Shared} {x C dx : Addr} {i : Int} {t : Tok} {Q : Shared → Prop}, s.heap.get? x = some (PySem.W.instObj C dx) → Q s →
      wpAny (model prog w) A (B ⟨[.int i t, .ref x], []⟩) (fun fin s' => ∃ v, fin = .done (.ret v) ∧ v = .notImplemented ∧ Q s') E s)
    (F : FnOk X.prog X.w X.K X.mg X.base CX k f fd ps sp) (hr : Room k X.A) (Z : BinR X.K C f op) (hb : Binds X.K fd ps []) (hx : Passes CX X E) : OpR X (binaryOp op) (rRight C sp E) := by
  rintro pins s σ H x y u v Q I rx ry ⟨i, a, dx, fs, rfl, rfl, ha, q⟩
  obtain ⟨t, rfl⟩ := (show ∃ t, u = Value.int i t from rx)
  cases ry
  obtain ⟨od, J⟩ := inst I ha
  obtain ⟨z1, ⟨f0, z2⟩, z3, z4, z5⟩ := Z
  exact binR I.kIn J z1 z2 z3 z4 z5 hfill slot (wpAny_call_entry slot (typeIs_int s i t) entry (wpAny_mono (decl (Q := fun s' => s'.heap = s.heap ∧ s'.gens = s.gens ∧ s'.drawn = s.drawn ∧ s'.os = s.os ∧ s'.toks = s.toks) J.at_ ⟨rfl, rfl, rfl, rfl, rfl⟩) (fun fin s' ⟨v, e, q⟩ => ⟨v, e, q⟩) fun _ _ e => e) (args _ _))
    (back (run2 (x := .ref a) (y := .int i) F hr hb hx I rfl ⟨t, rfl⟩ q))
theorem opRadd (F : FnOk X.prog X.w X.K X.mg X.base CX k f fd ps sp) (hr : Room k X.A) (Z : BinR X.K C f .Add) (hb : Binds X.K fd ps []) (hx : Passes CX X E) : OpR X (binaryOp .Add) (rRight C sp E) :=
  opR_of PySem.F.fills_int_add PySem.F.slot_int_add PySem.F.entry_int_add PySem.F.args_int_add_2 decl_add F hr Z hb hx
theorem opRsub (F : FnOk X.prog X.w X.K X.mg X.base CX k f fd ps sp) (hr : Room k X.A) (Z : BinR X.K C f .Sub) (hb : Binds X.K fd ps []) (hx : Passes CX X E) : OpR X (binaryOp .Sub) (rRight C sp E) :=
  opR_of PySem.F.fills_int_sub PySem.F.slot_int_sub PySem.F.entry_int_sub PySem.F.args_int_sub_2 decl_sub F hr Z hb hx
theorem opRmul (F : FnOk X.prog X.w X.K X.mg X.base CX k f fd ps sp) (hr : Room k X.A) (Z : BinR X.K C f .Mult) (hb : Binds X.K fd ps []) (hx : Passes CX X E) : OpR X (binaryOp .Mult) (rRight C sp E) :=
  opR_of PySem.F.fills_int_mul PySem.F.slot_int_mul PySem.F.entry_int_mul PySem.F.args_int_mul_2 decl_mul F hr Z hb hx
structure Ne (K : PySem.W.Frag) (C f : Addr) : Prop where
  ne : PySem.W.findIn K (.ref C) "__ne__" = some (some (.builtin "object.__ne__"))
  eq : PySem.W.findIn K (.ref C) "__eq__" = some (some (.ref f))
  fn : PySem.W.isFn K (.ref f) = true
  ob : PySem.W.subIn K (.ref C) (.type "object") = some true
def rNeOwn (K : PySem.W.Frag) (C : Addr) (sp : Sp) (E : XK) : R2 := fun x y H Q => ∃ a dx fs t, x = .ref a ∧ H a = some (.ins C dx fs) ∧ TyX K H y t ∧ PySem.W.notFirst K C t = true ∧ sp [.ref a, y] H (fun v H' => ∃ b, v = .bl b ∧ Q (.bl (!b)) H') E
theorem ne (F : FnOk X.prog X.w X.K X.mg X.base CX k f fd ps sp) (hr : Room (k + 1) X.A) (Z : Ne X.K C f) (hb : Binds X.K fd ps []) (hx : Passes CX X E) : OpR X (compareOp .NotEq) (rNeOwn X.K C sp E) := by
  rintro pins s σ H x y u v Q I rx ry ⟨a, dx, fs, t, rfl, ha, ty, nf, q⟩
  cases rx
  obtain ⟨od, J⟩ := inst I ha
  have hu : X.A.units + 1 < cLine := hu_of hr
  exact ne_K hu I.kIn J (typed I ry ty) nf Z.ne Z.eq Z.fn Z.ob (wpAny_mono (runIn (us := [.ref a, v]) (vs := [.ref a, y]) F hr hb hx I (.cons rfl (.cons ry .nil)) q) (fun r s' hq => by
    obtain ⟨z, H', I', rz, b, rfl, q'⟩ := hq
    cases rz
    exact ⟨b, rfl, .bl (!b), H', I', rfl, q'⟩) fun _ _ e => e)
/-- len(o) by the own __len__ -/
theorem len (F : FnOk X.prog X.w X.K X.mg X.base CX k f fd ps sp) (hr : Room (k + 1) X.A) (B : Sp1 X.K C "__len__" f) (hb : Binds X.K fd ps []) (hx : Passes CX X E) :
    CallR X (.builtin "len") (fun xs H Q => ∃ a dx fs, xs = [.ref a] ∧ H a = some (.ins C dx fs) ∧ sp [.ref a] H (fun v H' => ∃ n, v = .int n ∧ 0 ≤ n ∧ n < 2 ^ 63 ∧ Q (.int n) H') E) := by
  rintro pins s σ H xs us Q I rs ⟨a, dx, fs, rfl, ha, q⟩
  cases rs with
  | cons r rest =>
    cases rest
    cases r
    obtain ⟨od, J⟩ := inst I ha
    obtain ⟨m, hF⟩ := I.fr
    refine PySem.W.len_K hF I.ok.mod.kin J B.at_ B.fn (wpAny_mono (runIn (us := [.ref a]) (vs := [.ref a]) F hr hb hx I (.cons rfl .nil) q) (fun r s' hq => ?_) fun _ _ e => e)
    obtain ⟨z, H', I', rz, n, rfl, h0, h1, q'⟩ := hq
    obtain ⟨t, rfl⟩ := (show ∃ t, r = Value.int n t from rz)
    exact ⟨⟨h0, h1⟩, .int n, H', I'.tok _, ⟨_, rfl⟩, q'⟩
end
theorem fnR_of {P : Program} {w : World} {K : PySem.W.Frag} {mg : Str → Option Value} {base : Heap} {CX : CXT} {k : Nat} {f : Addr} {fd : FuncData} {ps : List Str} {sp : Sp} (F : FnOk P w K mg base CX k f fd ps sp) (hb : Binds K fd ps []) : FnR P w K mg base CX k f sp := by
  intro A outer s H us vs Q E hr e0 r h
  have KX : K.In s.heap := e0.mod.kin.keeps fun b o e => (e0.bs b o e).1
  have hl : us.length = ps.length := by rw [← r.length]; exact F.len _ _ _ _ h
  have hb' := hb s us KX (by simpa using hl)
  rw [List.append_nil] at hb'
  exact F.run A outer s H ⟨us, []⟩ us vs Q E hr e0 hb' r h
def rIop (C : Addr) (sp : Sp) (E : XK) : R2 := fun x y H Q => ∃ a dx fs, x = .ref a ∧ H a = some (.ins C dx fs) ∧ sp [.ref a, y] H Q E
theorem pip {X : Cx} {C : Addr} {sp : Sp} {E : XK} {op : Operator} (h : OpR X (inplaceOp op) (fun x y H Q => ∃ a dx fs, x = .ref a ∧ H a = some (.ins C dx fs) ∧ sp [.ref a, y] H Q E)) : PIp X op (rIop C sp E) :=
  fun pins s σ H x y v u Q I rx ry q => h pins s σ H x y v u Q I rx ry q
theorem iop2 {H : Hp} {Q : VK} {C a dx : Addr} {sp : Sp} {E : XK} {fs : List (Str × V)} {y : V} (ha : H a = some (.ins C dx fs)) (h : sp [.ref a, y] H Q E) : rIop C sp E (.ref a) y H Q := ⟨a, dx, fs, rfl, ha, h⟩
/-- f(e, ..), f an expression that gives an instance of C: the reading speaks of the heap alone -/
def tCallI (C : Addr) (sp : Sp) (E : XK) (tf : TE) (t : TA) : TE := fun σ H Q => tf σ H fun y H1 => ∃ a, y = V.ref a ∧ t σ H1 fun vs H2 => (∃ dx fs, H2 a = some (.ins C dx fs)) ∧ sp (V.ref a :: vs) H2 Q E
theorem pe_callI {X : Cx} {CX : CXT} {k : Nat} {g C : Addr} {sp : Sp} {E : XK} {fe e : Expr} {es : List Expr} {tf : TE} {t : TA} {pos : Pos} (hf : PE X fe tf) (c : StX.CallO X.K C g) (F : FnR X.prog X.w X.K X.mg X.base CX k g sp) (hr : Room k X.A) (hx : Passes CX X E) (ha : PA X (e :: es) t)
    (ht : eval (.Call fe (e :: es) [] pos) X.env = (do callWith pos (← eval fe X.env) [] (backTo pos (starEach (e :: es) X.env)) (backToKw pos (keywordEach [] X.env))) := by rfl)
    (he : starEach (e :: es) X.env = (false, eval e X.env) :: starEach es X.env := by rfl) (hpl : (backTo pos (starEach es X.env)).any (·.1) = false := by rfl) : PE X (.Call fe (e :: es) [] pos) (tCallI C sp E tf t) := by
  refine ⟨fun pins s σ H Q I h => Call_ (thn (hf.run pins s σ H _ I h) fun u s1 z => ?_) ht⟩
  obtain ⟨y, H1, I1, ry, a, rfl, q⟩ := z
  cases ry
  refine StX.callO_with (thn (ha.run pos pins s1 σ H1 _ I1 q) fun us s2 z2 => ?_) he hpl
  obtain ⟨vs, H2, I2, r, hi, q2⟩ := z2
  obtain ⟨od, J⟩ : ∃ od, PySem.W.InstAt s2.heap a (PySem.W.instObj C hi.choose) C od := inst I2 hi.choose_spec.choose_spec
  exact ⟨⟨C, _, od, J, rfl⟩, StX.run_callO c F hr hx I2 (.inr hi) r q2⟩
section
variable {σ : L2.St} {H : Hp} {Q : VK} {C : Addr} {sp : Sp} {E : XK}
theorem opS2 {a b dx dy : Addr} {fs gs : List (Str × V)} (ha : H a = some (.ins C dx fs)) (hb : H b = some (.ins C dy gs)) (h : sp [.ref a, .ref b] H Q E) : rSame C sp E (.ref a) (.ref b) H Q := ⟨a, b, dx, dy, fs, gs, rfl, rfl, ha, hb, h⟩
theorem opT2 {a dx : Addr} {fs : List (Str × V)} {T : String} {y : V} (ha : H a = some (.ins C dx fs)) (ty : ∀ u, RelV y u → typeOf u = pure (.type T)) (h : sp [.ref a, y] H Q E) : rLeft C T sp E (.ref a) y H Q := ⟨a, dx, fs, rfl, ha, ty, h⟩
theorem opR2 {a dx : Addr} {fs : List (Str × V)} {i : Int} (ha : H a = some (.ins C dx fs)) (h : sp [.ref a, .int i] H Q E) : rRight C sp E (.int i) (.ref a) H Q := ⟨i, a, dx, fs, rfl, rfl, ha, h⟩
theorem neg2 {a dx : Addr} {fs : List (Str × V)} (ha : H a = some (.ins C dx fs)) (h : sp [.ref a] H Q E) : rOne C sp E (.ref a) H Q := ⟨a, dx, fs, rfl, ha, h⟩
theorem cmp2 {K : PySem.W.Frag} {a dx : Addr} {fs : List (Str × V)} {y : V} {t : Value} (ha : H a = some (.ins C dx fs)) (ty : TyX K H y t) (nf : PySem.W.notFirst K C t = true) (h : sp [.ref a, y] H Q E) : rCmp K C sp E (.ref a) y H Q := ⟨a, dx, fs, t, rfl, ha, ty, nf, h⟩
theorem ne2 {K : PySem.W.Frag} {a dx : Addr} {fs : List (Str × V)} {y : V} {t : Value} (ha : H a = some (.ins C dx fs)) (ty : TyX K H y t) (nf : PySem.W.notFirst K C t = true) (h : sp [.ref a, y] H (fun v H' => ∃ b, v = .bl b ∧ Q (.bl (!b)) H') E) : rNeOwn K C sp E (.ref a) y H Q := ⟨a, dx, fs, t, rfl, ha, ty, nf, h⟩
theorem callI {tf : TE} {t : TA} (h : tf σ H fun y H1 => ∃ a, y = V.ref a ∧ t σ H1 fun vs H2 => (∃ dx fs, H2 a = some (.ins C dx fs)) ∧ sp (V.ref a :: vs) H2 Q E) : tCallI C sp E tf t σ H Q := h
theorem ty_int {i : Int} : ∀ u, RelV (.int i) u → typeOf u = pure (.type "int") := by
  rintro u ⟨t, rfl⟩
  rfl
end
end Own
/-! ## lists made of lists, and what == says of ints -/
namespace Rd
open PySem PySem.Spec PyProof.Rows L2
theorem lc {wi : TI} {g : TG} {tt : TT} {te : TE} {vs : List Nat} {σ : L2.St} {H : Hp} {Q : VK} (h : wi σ H fun J H1 => ∀ D, H1 D = none → ∃ W : Nat → Nat → Hp → Prop, (∃ m, W 0 m (upd H1 D (.lst []))) ∧ ∀ i m H, W i m H →
    (J.stop i H ∧ Q (.ref D) H) ∨ (J.go i H ∧ ∃ Nx : Hp → Prop, (∀ H', Nx H' → ∃ m', m' < m ∧ W (i + 1) m' H') ∧ ∀ x H', J.yld i H x H' → g x (wipe σ vs) H' fun σ2 H2 => wipe σ2 vs = wipe σ vs ∧ tt σ2 H2 fun b H3 =>
      if b = true then te σ2 H3 fun y H4 => ∃ acc, H4 D = some (.lst acc) ∧ acc.length < sizeLine ∧ Nx (upd H4 D (.lst (acc ++ [y]))) else Nx H3)) : tLc wi g tt te vs σ H Q := h
theorem il {K : PySem.W.Frag} {tl : TE} {σ : L2.St} {H : Hp} {R : It → Hp → Prop} (h : tl σ H fun x H1 => ∃ a, x = .ref a ∧ (∃ xs, SqL K H1 a xs) ∧ R (Itl K a) H1) : iList K tl σ H R := h
theorem same_upd {H H' : Hp} {D : Addr} {o : HO} (hD : H D = none) (S : Same H H') : Same H (upd H' D o) := fun b u e => by
  rw [upd_ne (ne_of_none e hD)]
  exact S b u e
/-- [e for x in l]: the items' images, where e makes the image and leaves what was tracked -/
theorem lcMap {α : Type} {items : List α} {inj res : α → V} {K : PySem.W.Frag} {a : Addr} {i : Nat} {te : TE} {vs : List Nat} {σ : L2.St} {H : Hp} {Q : VK} (hs : SqL K H a (items.map inj)) (hn : items.length ≤ 1000)
    (hw : ∀ x, wipe ((wipe σ vs).set i (some x)) vs = wipe σ vs)
    (elem : ∀ x ∈ items, ∀ H', Same H H' → ∀ R : VK, (∀ H'', Same H' H'' → R (res x) H'') → te ((wipe σ vs).set i (some (inj x))) H' R)
    (k : ∀ (p : Addr) (H' : Hp), H p = none → Same H H' → H' p = some (.lst (items.map res)) → Q (.ref p) H') :
    (∃ xs, SqL K H a xs) ∧ ∀ D, H D = none → ∃ W : Nat → Nat → Hp → Prop, (∃ m, W 0 m (upd H D (.lst []))) ∧ ∀ t m H, W t m H →
      ((Itl K a).stop t H ∧ Q (.ref D) H) ∨ ((Itl K a).go t H ∧ ∃ Nx : Hp → Prop, (∀ H', Nx H' → ∃ m', m' < m ∧ W (t + 1) m' H') ∧ ∀ x H', (Itl K a).yld t H x H' → (gName i) x (wipe σ vs) H' fun σ2 H2 => wipe σ2 vs = wipe σ vs ∧ tYes σ2 H2 fun b H3 =>
        if b = true then te σ2 H3 fun y H4 => ∃ acc, H4 D = some (.lst acc) ∧ acc.length < sizeLine ∧ Nx (upd H4 D (.lst (acc ++ [y]))) else Nx H3) := by
  refine ⟨⟨_, hs⟩, fun D hD => lc_list (xs := items.map inj) (fun t H' => Same H H' ∧ H' D = some (.lst ((items.take t).map res))) ⟨same_upd hD (Same.refl _), upd_same⟩ (fun t H' _ p => p.1.seq hs) (fun t x H' hx p => ?_) (fun H' p => ?_)⟩
  · obtain ⟨S, hl⟩ := p
    rw [List.getElem?_map] at hx
    cases e : items[t]? with
    | none => rw [e] at hx; cases hx
    | some y =>
      rw [e] at hx
      cases hx
      have hy : y ∈ items := List.mem_of_getElem? e
      have ht : t < items.length := (List.getElem?_eq_some_iff.mp e).1
      refine ⟨hw _, iteT (B := Same H H' ∧ H' D = some (.lst ((items.take (t + 1)).map res))) rfl (elem y hy H' S _ fun H'' S' => ⟨_, S' _ _ hl, ?_, ?_, ?_⟩)⟩
      · rw [List.length_map, List.length_take]
        exact small1000 (by omega)
      · exact same_upd hD (S.trans S')
      · rw [upd_same, List.take_add_one, e]
        simp
  · obtain ⟨S, hl⟩ := p
    rw [List.length_map, List.take_length] at hl
    exact k D H' hD S hl
theorem lcMapI {ns : List Int} {g : Int → Int} {K : PySem.W.Frag} {a : Addr} {i : Nat} {te : TE} {vs : List Nat} {σ : L2.St} {H : Hp} {Q : VK} (hs : SqL K H a (ns.map V.int)) (hn : ns.length ≤ 1000)
    (hw : ∀ x, wipe ((wipe σ vs).set i (some x)) vs = wipe σ vs)
    (elem : ∀ x ∈ ns, ∀ H', Same H H' → ∀ R : VK, (∀ H'', Same H' H'' → R (.int (g x)) H'') → te ((wipe σ vs).set i (some (.int x))) H' R)
    (k : ∀ (p : Addr) (H' : Hp), H p = none → Same H H' → H' p = some (.lst ((ns.map g).map V.int)) → Q (.ref p) H') :
    (∃ xs, SqL K H a xs) ∧ ∀ D, H D = none → ∃ W : Nat → Nat → Hp → Prop, (∃ m, W 0 m (upd H D (.lst []))) ∧ ∀ t m H, W t m H →
      ((Itl K a).stop t H ∧ Q (.ref D) H) ∨ ((Itl K a).go t H ∧ ∃ Nx : Hp → Prop, (∀ H', Nx H' → ∃ m', m' < m ∧ W (t + 1) m' H') ∧ ∀ x H', (Itl K a).yld t H x H' → (gName i) x (wipe σ vs) H' fun σ2 H2 => wipe σ2 vs = wipe σ vs ∧ tYes σ2 H2 fun b H3 =>
        if b = true then te σ2 H3 fun y H4 => ∃ acc, H4 D = some (.lst acc) ∧ acc.length < sizeLine ∧ Nx (upd H4 D (.lst (acc ++ [y]))) else Nx H3) :=
  lcMap (inj := V.int) (res := fun x => .int (g x)) hs hn hw elem fun p H' hp S h => k p H' hp S (by rw [List.map_map]; exact h)
theorem lcVarI {ns : List Int} {g : Int → Int} {K : PySem.W.Frag} {a : Addr} {i j : Nat} {te : TE} {vs : List Nat} {σ : L2.St} {H : Hp} {Q : VK} (ej : σ[j]? = some (some (.ref a))) (hs : SqL K H a (ns.map V.int)) (hn : ns.length ≤ 1000)
    (hw : ∀ x, wipe ((wipe σ vs).set i (some x)) vs = wipe σ vs)
    (elem : ∀ x ∈ ns, ∀ H', Same H H' → ∀ R : VK, (∀ H'', Same H' H'' → R (.int (g x)) H'') → te ((wipe σ vs).set i (some (.int x))) H' R)
    (k : ∀ (p : Addr) (H' : Hp), H p = none → Same H H' → H' p = some (.lst ((ns.map g).map V.int)) → Q (.ref p) H') : tLc (iList K (tVar j)) (gName i) tYes te vs σ H Q :=
  lc (il ⟨_, ej, _, rfl, lcMapI hs hn hw elem k⟩)
/-- [e for x in l if t] where t never holds: a new empty list -/
theorem lcNone {items : List V} {K : PySem.W.Frag} {a : Addr} {i j : Nat} {te : TE} {tt : TT} {vs : List Nat} {σ : L2.St} {H : Hp} {Q : VK} (ej : σ[j]? = some (some (.ref a))) (hs : SqL K H a items)
    (hw : ∀ x, wipe ((wipe σ vs).set i (some x)) vs = wipe σ vs)
    (test : ∀ x ∈ items, ∀ H', Same H H' → ∀ R : Bool → Hp → Prop, (∀ H'', Same H' H'' → R false H'') → tt ((wipe σ vs).set i (some x)) H' R)
    (k : ∀ (p : Addr) (H' : Hp), H p = none → Same H H' → H' p = some (.lst []) → Q (.ref p) H') : tLc (iList K (tVar j)) (gName i) tt te vs σ H Q := by
  refine lc (il ⟨_, ej, _, rfl, ⟨_, hs⟩, fun D hD => lc_list (xs := items) (fun _ H' => Same H H' ∧ H' D = some (.lst [])) ⟨same_upd hD (Same.refl _), upd_same⟩ (fun t H' _ p => p.1.seq hs) (fun t x H' hx p => ?_) (fun H' p => k D H' hD p.1 p.2)⟩)
  obtain ⟨S, hl⟩ := p
  refine ⟨hw _, test x (List.mem_of_getElem? hx) H' S _ fun H'' S' => ?_⟩
  exact iteF (A := te _ H'' _) rfl ⟨S.trans S', S' _ _ hl⟩
theorem mulB {a n : Int} {A B : Nat} (ha : a.natAbs < 2 ^ A) (hn : n.natAbs < 2 ^ B) : -(2 ^ (A + B)) < a * n ∧ a * n < 2 ^ (A + B) := by
  have h := wide_lt ha hn
  have e : ((2 ^ (A + B) : Nat) : Int) = (2 : Int) ^ (A + B) := by simp
  rw [← e]
  omega
theorem dp_ints {K : PySem.W.Frag} {H : Hp} : ∀ ns : List Int, DpAll K H (ns.map V.int) (ns.map PyData.int)
  | [] => .nil
  | _ :: r => .cons (.int _) (dp_ints r)
theorem dp_listI {K : PySem.W.Frag} {H : Hp} {a : Addr} {ns : List Int} (h : SqL K H a (ns.map V.int)) : Dp K H (.ref a) (.list (ns.map PyData.int)) := .lst h (dp_ints ns)
theorem can_ints : ∀ ns : List Int, PyData.canLayAll0 (ns.map PyData.int) = true
  | [] => by simp [PyData.canLayAll0]
  | _ :: r => by simp only [List.map_cons, PyData.canLayAll0, PyData.canLay0, can_ints r, Bool.and_self]
theorem dep_ints : ∀ ns : List Int, PyData.depthAll (ns.map PyData.int) = 0
  | [] => by simp [PyData.depthAll]
  | _ :: r => by simp only [List.map_cons, PyData.depthAll, PyData.depth, dep_ints r, Nat.max_self]
theorem shaped_listI (ns : List Int) : SeqAt.shaped (.list (ns.map PyData.int)) = true := by
  simp only [SeqAt.shaped, PyData.canLay0, can_ints, PyData.depth, dep_ints]
  decide
theorem eqvAll_ints : ∀ ns ms : List Int, PyData.eqvAll (ns.map PyData.int) (ms.map PyData.int) = decide (ns = ms)
  | [], [] => by simp [PyData.eqvAll]
  | [], _ :: _ => by simp [PyData.eqvAll]
  | _ :: _, [] => by simp [PyData.eqvAll]
  | x :: r, y :: q => by
    simp only [List.map_cons, PyData.eqvAll, PyData.eqv, eqvAll_ints r q]
    by_cases h : x = y
    · subst h; simp
    · simp [h]
theorem eqv_listI (ns ms : List Int) : PyData.eqv (.list (ns.map PyData.int)) (.list (ms.map PyData.int)) = decide (ns = ms) := by
  simp only [PyData.eqv, eqvAll_ints]
theorem eqv_pair (a b c d : Int) : PyData.eqv (.tuple [.int a, .int b]) (.tuple [.int c, .int d]) = (a == c && b == d) := by
  simp [PyData.eqv, PyData.eqvAll]
theorem eqv_pairV (a b c d : Int) : PyData.eqv (.tuple [.int a, .int b]) (.tuple [.int c, .int d]) = (decide (V.int a = .int c) && decide (V.int b = .int d)) := by
  simp only [PyData.eqv, PyData.eqvAll, Bool.and_true, V.int.injEq]
  rw [Bool.eq_iff_iff]
  simp
theorem dp_pair {K : PySem.W.Frag} {H : Hp} {p : Addr} {a b : Int} (h : SqT K H p [.int a, .int b]) : Dp K H (.ref p) (.tuple [.int a, .int b]) := .tup h (.cons (.int _) (.cons (.int _) .nil))
theorem shaped_pair (a b : Int) : SeqAt.shaped (.tuple [.int a, .int b]) = true := by
  simp only [SeqAt.shaped, PyData.canLay0, PyData.canLayAll0, PyData.depth, PyData.depthAll]
  rfl
theorem isi {X : Cx} {K : PySem.W.Frag} (e : X.K = K) : CallR X (.builtin "isinstance") (rIsi K) := e ▸ call_isi
theorem dp_nil {K : PySem.W.Frag} {H : Hp} {p : Addr} (h : SqL K H p []) : Dp K H (.ref p) (.list []) := .lst h .nil
theorem eqv_nil : PyData.eqv (.list []) (.list []) = true := by simp [PyData.eqv, PyData.eqvAll]
theorem shaped_nil : SeqAt.shaped (.list []) = true := by
  simp only [SeqAt.shaped, PyData.canLay0, PyData.canLayAll0, PyData.depth, PyData.depthAll]
  rfl
/-- an item of a written list of ints at a drawn place -/
theorem pick {ns : List Int} {lo hi : Int} {K : PySem.W.Frag} {H : Hp} {a : Addr} {xs : List V} {d : Int} {Q : VK} (hm : ∀ n ∈ ns, lo ≤ n ∧ n ≤ hi) (e : SqL K H a xs) (eq : xs = ns.map V.int) (h0 : 0 ≤ d) (h1 : d < (ns.length : Int))
    (h : ∀ n : Int, n ∈ ns → lo ≤ n → n ≤ hi → Q (.int n) H) : rIxL K (.ref a) (.int d) H Q := by
  subst eq
  obtain ⟨j, rfl⟩ : ∃ j : Nat, d = (j : Int) := ⟨d.toNat, by omega⟩
  have hj : j < ns.length := by omega
  have hn : ns[j] ∈ ns := List.getElem_mem hj
  exact ⟨a, _, _, .int ns[j], rfl, rfl, e, atI_nat (by rw [List.getElem?_map, List.getElem?_eq_getElem hj]; rfl), h _ hn (hm _ hn).1 (hm _ hn).2⟩
theorem sgn {d n B : Int} (h0 : 0 ≤ d) (h1 : d < B) (m : n ∈ [(1 : Int), -1]) : -B < d * n ∧ d * n < B := by
  simp only [List.mem_cons, List.not_mem_nil, or_false] at m
  rcases m with rfl | rfl <;> omega
end Rd
/-! ## pairs in order, lists of truths -/
namespace Rd
open PySem PySem.Spec PyProof.Rows L2
/-- what an order of pairs says: rr of the first unlike parts, z where all are alike -/
def rPr (K : PySem.W.Frag) (z : Bool) (rr : Int → Int → Bool) : R2 := fun x y H Q => ∃ (p q : Addr) (a b c d : Int), x = .ref p ∧ y = .ref q ∧ SqT K H p [.int a, .int b] ∧ SqT K H q [.int c, .int d] ∧ Q (.bl (if a = c then (if b = d then z else rr b d) else rr a c)) H
theorem pair_ints {us : List Value} {a b : Int} (h : IntsAre us [a, b]) : ∃ t u, us = [.int a t, .int b u] := by
  cases h with
  | cons _ t h1 =>
    cases h1 with
    | cons _ u h2 =>
      cases h2
      exact ⟨t, u, rfl⟩
theorem opPr {X : Cx} {op : CmpOp} {z : Bool} {rr : Int → Int → Bool}
    (T : ∀ {s : Shared} {l m : Addr} {u1 u2 w1 w2 : Value} {e r : Nat → Bool}, s.heap.IsTuple l #[u1, u2] → s.heap.IsTuple m #[w1, w2] →
      (∀ j (h1 : j < (#[u1, u2] : Array Value).size) (h2 : j < (#[w1, w2] : Array Value).size), SeqAt.EqAt X.A.in1 s (#[u1, u2] : Array Value)[j] (#[w1, w2] : Array Value)[j] (e j)) →
      (∀ j (h1 : j < (#[u1, u2] : Array Value).size) (h2 : j < (#[w1, w2] : Array Value).size), e j = false → Ob.RcOp op X.A.in1 s (#[u1, u2] : Array Value)[j] (#[w1, w2] : Array Value)[j] (r j)) → Ob.RcOp op X.A s (.ref l) (.ref m) (Ob.lexAt e r z 0 2))
    (I1 : ∀ {s : Shared} (a b : Int) (t u : Tok), Ob.RcOp op X.A.in1 s (.int a t) (.int b u) (rr a b))
    (hop : ∀ (x y : Value), compareOp op x y = richCompare op x y) : OpR X (compareOp op) (rPr X.K z rr) := by
  intro pins s σ H x y v u Q I rx ry h
  obtain ⟨p, q, a, b, c, d, rfl, rfl, hp, hq, k⟩ := h
  cases rx
  cases ry
  obtain ⟨us, r1, p1, _⟩ := I.tuple hp
  obtain ⟨ws, r2, p2, _⟩ := I.tuple hq
  obtain ⟨t1, t2, rfl⟩ := pair_ints (Vals.ints (ns := [a, b]) r1)
  obtain ⟨t3, t4, rfl⟩ := pair_ints (Vals.ints (ns := [c, d]) r2)
  have R := T (s := s) (e := fun j => if j = 0 then decide (a = c) else decide (b = d)) (r := fun j => if j = 0 then rr a c else rr b d) p1 p2 (fun j h1 h2 => by
    rcases j with _ | _ | j
    · have w := SeqAt.EqAt.int_int (A := X.A.in1) (s := s) a t1 c t3
      rw [show (a == c) = decide (a = c) from by by_cases e : a = c <;> simp [e]] at w
      exact w
    · have w := SeqAt.EqAt.int_int (A := X.A.in1) (s := s) b t2 d t4
      rw [show (b == d) = decide (b = d) from by by_cases e : b = d <;> simp [e]] at w
      exact w
    · exact absurd h1 (by simp)) (fun j h1 h2 _ => by
    rcases j with _ | _ | j
    · exact I1 a c t1 t3
    · exact I1 b d t2 t4
    · exact absurd h1 (by simp))
  have hb : Ob.lexAt (fun j => if j = 0 then decide (a = c) else decide (b = d)) (fun j => if j = 0 then rr a c else rr b d) z 0 2 = (if a = c then (if b = d then z else rr b d) else rr a c) := by
    simp only [Ob.lexAt, decide_eq_true_eq, if_pos]
    by_cases e : a = c <;> by_cases f : b = d <;> simp [e, f]
  rw [hb] at R
  show wpAny (model X.prog X.w) X.A (compareOp op (.ref p) (.ref q)) (EP X pins σ Q) X.xe s
  rw [hop]
  exact R X.prog X.w X.xe (EP X pins σ Q) ⟨.bl _, H, I, rfl, k⟩
theorem opPrLt {X : Cx} (hu : X.A.units < cLine) : OpR X (compareOp .Lt) (rPr X.K false fun a b => decide (a < b)) :=
  opPr (fun h1 h2 e r => Ob.RcOp.tuples_lt h1 h2 hu e r) (fun a b t u => Ob.RcOp.lt_int a b t u) (fun _ _ => rfl)
theorem opPrLe {X : Cx} (hu : X.A.units < cLine) : OpR X (compareOp .LtE) (rPr X.K true fun a b => decide (a ≤ b)) :=
  opPr (fun h1 h2 e r => Ob.RcOp.tuples_le h1 h2 hu e r) (fun a b t u => Ob.RcOp.le_int a b t u) (fun _ _ => rfl)
theorem opPrGt {X : Cx} (hu : X.A.units < cLine) : OpR X (compareOp .Gt) (rPr X.K false fun a b => decide (b < a)) :=
  opPr (fun h1 h2 e r => Ob.RcOp.tuples_gt h1 h2 hu e r) (fun a b t u => Ob.RcOp.gt_int a b t u) (fun _ _ => rfl)
theorem opPrGe {X : Cx} (hu : X.A.units < cLine) : OpR X (compareOp .GtE) (rPr X.K true fun a b => decide (b ≤ a)) :=
  opPr (fun h1 h2 e r => Ob.RcOp.tuples_ge h1 h2 hu e r) (fun a b t u => Ob.RcOp.ge_int a b t u) (fun _ _ => rfl)
section
variable {K : PySem.W.Frag} {H : Hp} {p q : Addr} {a b c d : Int} {Q : VK}
theorem prLt (e : SqT K H p [.int a, .int b]) (f : SqT K H q [.int c, .int d]) (h : Q (.bl (decide (a < c ∨ a = c ∧ b < d))) H) : rPr K false (fun a b => decide (a < b)) (.ref p) (.ref q) H Q := by
  refine ⟨_, _, a, b, c, d, rfl, rfl, e, f, ?_⟩
  have w : (if a = c then (if b = d then false else decide (b < d)) else decide (a < c)) = decide (a < c ∨ a = c ∧ b < d) := by
    split <;> (try split) <;> (rw [eq_comm]; first | (apply decide_eq_false; omega) | (congr 1; apply propext; omega))
  rw [w]
  exact h
theorem prLe (e : SqT K H p [.int a, .int b]) (f : SqT K H q [.int c, .int d]) (h : Q (.bl (decide (a < c ∨ a = c ∧ b ≤ d))) H) : rPr K true (fun a b => decide (a ≤ b)) (.ref p) (.ref q) H Q := by
  refine ⟨_, _, a, b, c, d, rfl, rfl, e, f, ?_⟩
  have w : (if a = c then (if b = d then true else decide (b ≤ d)) else decide (a ≤ c)) = decide (a < c ∨ a = c ∧ b ≤ d) := by
    split <;> (try split) <;> (rw [eq_comm]; first | (apply decide_eq_true; omega) | (congr 1; apply propext; omega))
  rw [w]
  exact h
theorem prGt (e : SqT K H p [.int a, .int b]) (f : SqT K H q [.int c, .int d]) (h : Q (.bl (decide (c < a ∨ a = c ∧ d < b))) H) : rPr K false (fun a b => decide (b < a)) (.ref p) (.ref q) H Q := by
  refine ⟨_, _, a, b, c, d, rfl, rfl, e, f, ?_⟩
  have w : (if a = c then (if b = d then false else decide (d < b)) else decide (c < a)) = decide (c < a ∨ a = c ∧ d < b) := by
    split <;> (try split) <;> (rw [eq_comm]; first | (apply decide_eq_false; omega) | (congr 1; apply propext; omega))
  rw [w]
  exact h
theorem prGe (e : SqT K H p [.int a, .int b]) (f : SqT K H q [.int c, .int d]) (h : Q (.bl (decide (c < a ∨ a = c ∧ d ≤ b))) H) : rPr K true (fun a b => decide (b ≤ a)) (.ref p) (.ref q) H Q := by
  refine ⟨_, _, a, b, c, d, rfl, rfl, e, f, ?_⟩
  have w : (if a = c then (if b = d then true else decide (d ≤ b)) else decide (c ≤ a)) = decide (c < a ∨ a = c ∧ d ≤ b) := by
    split <;> (try split) <;> (rw [eq_comm]; first | (apply decide_eq_true; omega) | (congr 1; apply propext; omega))
  rw [w]
  exact h
end
/-- t + u, of pairs -/
theorem catP {K : PySem.W.Frag} {H : Hp} {p q : Addr} {a b c d : V} {Q : VK} (e : SqT K H p [a, b]) (f : SqT K H q [c, d]) (h : ∀ r, H r = none → Q (.ref r) (upd H r (.tup [a, b, c, d]))) : rCatT K (.ref p) (.ref q) H Q :=
  ⟨p, q, _, _, rfl, rfl, e, f, by simp, Nat.le_of_lt (small1000 (show 4 ≤ 1000 by decide)), fun z => absurd z (by simp), fun _ r hr => h r hr⟩
theorem it {K : PySem.W.Frag} {tl : TE} {σ : L2.St} {H : Hp} {R : It → Hp → Prop} (h : tl σ H fun x H1 => ∃ a, x = .ref a ∧ (∃ xs, SqT K H1 a xs) ∧ R (Itt K a) H1) : iTup K tl σ H R := h
theorem ckw {r : List V → List V → Hp → VK → Prop} {t tk : TA} {σ : L2.St} {H : Hp} {Q : VK} (h : t σ H fun vs H1 => tk σ H1 fun zs H2 => r vs zs H2 Q) : tCKw r t tk σ H Q := h
theorem sqTS {K : PySem.W.Frag} {H H' : Hp} {a : Addr} {xs : List V} (f : Same H H') (h : SqT K H a xs) : SqT K H' a xs :=
  h.elim (fun r => .inl (r.elim (fun z => .inl (f _ _ z)) fun ⟨o, z⟩ => .inr ⟨o, f _ _ z⟩)) .inr
/-- [e for x in t], t a tuple of ints -/
theorem lcMapT {ns : List Int} {g : Int → Int} {K : PySem.W.Frag} {a : Addr} {i : Nat} {te : TE} {vs : List Nat} {σ : L2.St} {H : Hp} {Q : VK} {xs : List V} (hs : SqT K H a xs) (ex : xs = ns.map V.int) (hn : ns.length ≤ 1000)
    (hw : ∀ x, wipe ((wipe σ vs).set i (some x)) vs = wipe σ vs)
    (elem : ∀ x ∈ ns, ∀ H', Same H H' → ∀ R : VK, (∀ H'', Same H' H'' → R (.int (g x)) H'') → te ((wipe σ vs).set i (some (.int x))) H' R)
    (k : ∀ (p : Addr) (H' : Hp), H p = none → Same H H' → H' p = some (.lst ((ns.map g).map V.int)) → Q (.ref p) H') :
    (∃ xs, SqT K H a xs) ∧ ∀ D, H D = none → ∃ W : Nat → Nat → Hp → Prop, (∃ m, W 0 m (upd H D (.lst []))) ∧ ∀ t m H, W t m H →
      ((Itt K a).stop t H ∧ Q (.ref D) H) ∨ ((Itt K a).go t H ∧ ∃ Nx : Hp → Prop, (∀ H', Nx H' → ∃ m', m' < m ∧ W (t + 1) m' H') ∧ ∀ x H', (Itt K a).yld t H x H' → (gName i) x (wipe σ vs) H' fun σ2 H2 => wipe σ2 vs = wipe σ vs ∧ tYes σ2 H2 fun b H3 =>
        if b = true then te σ2 H3 fun y H4 => ∃ acc, H4 D = some (.lst acc) ∧ acc.length < sizeLine ∧ Nx (upd H4 D (.lst (acc ++ [y]))) else Nx H3) := by
  subst ex
  refine ⟨⟨_, hs⟩, fun D hD => lc_tup (xs := ns.map V.int) (fun t H' => Same H H' ∧ H' D = some (.lst (((ns.take t).map g).map V.int))) ⟨same_upd hD (Same.refl _), upd_same⟩ (fun t H' _ p => sqTS p.1 hs) (fun t x H' hx p => ?_) (fun H' p => ?_)⟩
  · obtain ⟨S, hl⟩ := p
    rw [List.getElem?_map] at hx
    cases e : ns[t]? with
    | none => rw [e] at hx; cases hx
    | some y =>
      rw [e] at hx
      cases hx
      have hy : y ∈ ns := List.mem_of_getElem? e
      have ht : t < ns.length := (List.getElem?_eq_some_iff.mp e).1
      refine ⟨hw _, iteT (B := Same H H' ∧ H' D = some (.lst (((ns.take (t + 1)).map g).map V.int))) rfl (elem y hy H' S _ fun H'' S' => ⟨_, S' _ _ hl, ?_, ?_, ?_⟩)⟩
      · rw [List.length_map, List.length_map, List.length_take]
        exact small1000 (by omega)
      · exact same_upd hD (S.trans S')
      · rw [upd_same, List.take_add_one, e]
        simp
  · obtain ⟨S, hl⟩ := p
    rw [List.length_map, List.take_length] at hl
    exact k D H' hD S hl
/-- [e for x in t + u], t and u pairs of ints -/
theorem lcCatI {a b c d : Int} {g : Int → Int} {K : PySem.W.Frag} {p q : Addr} {i j1 j2 : Nat} {te : TE} {vs : List Nat} {σ : L2.St} {H : Hp} {Q : VK} (e1 : σ[j1]? = some (some (.ref p))) (e2 : σ[j2]? = some (some (.ref q))) (hp : SqT K H p [.int a, .int b]) (hq : SqT K H q [.int c, .int d])
    (hw : ∀ x, wipe ((wipe σ vs).set i (some x)) vs = wipe σ vs)
    (elem : ∀ x ∈ [a, b, c, d], ∀ H', Same H H' → ∀ R : VK, (∀ H'', Same H' H'' → R (.int (g x)) H'') → te ((wipe σ vs).set i (some (.int x))) H' R)
    (k : ∀ (r : Addr) (H' : Hp), Same H H' → H' r = some (.lst (([a, b, c, d].map g).map V.int)) → Q (.ref r) H') : tLc (iTup K (tOp (rCatT K) (tVar j1) (tVar j2))) (gName i) tYes te vs σ H Q :=
  lc (it ⟨_, e1, _, e2, catP hp hq fun r hr => ⟨r, rfl, lcMapT (SqT.of (L2.upd_same)) rfl (by simp) hw (fun x hx H' S R kk => elem x hx H' (Same.trans (same_upd hr (Same.refl _)) S) R kk) fun r2 H' h2 S hl => k r2 H' (Same.trans (same_upd hr (Same.refl _)) S) hl⟩⟩)
theorem two {u v : V} {i : Nat} {x : V} (h : [u, v][i]? = some x) : x = u ∨ x = v := by
  rcases i with _ | _ | i
  · exact .inl (Option.some.inj h).symm
  · exact .inr (Option.some.inj h).symm
  · simp at h
theorem dp_b4 {K : PySem.W.Frag} {H : Hp} {p : Addr} {x y z w : Bool} (h : SqL K H p [.bl x, .bl y, .bl z, .bl w]) : Dp K H (.ref p) (.list [.bool x, .bool y, .bool z, .bool w]) := .lst h (.cons (.bl _) (.cons (.bl _) (.cons (.bl _) (.cons (.bl _) .nil))))
theorem shaped_b4 (x y z w : Bool) : SeqAt.shaped (.list [.bool x, .bool y, .bool z, .bool w]) = true := by
  simp only [SeqAt.shaped, PyData.canLay0, PyData.canLayAll0, PyData.depth, PyData.depthAll]
  rfl
theorem lessV (a b c d : Int) : (decide (a < c) || (decide (V.int a = V.int c) && decide (b < d))) = decide (a < c ∨ a = c ∧ b < d) := by
  rw [Bool.eq_iff_iff]
  simp
theorem told4 (a b c d : Int) : (!PyData.eqv (.list [.bool (decide (a < c ∨ a = c ∧ b < d)), .bool (decide (a < c ∨ a = c ∧ b ≤ d)), .bool (decide (c < a ∨ a = c ∧ d < b)), .bool (decide (c < a ∨ a = c ∧ d ≤ b))])
    (.list [.bool (decide (a < c ∨ a = c ∧ b < d)), .bool (decide (a < c ∨ a = c ∧ b < d) || PyData.eqv (.tuple [.int a, .int b]) (.tuple [.int c, .int d])), .bool (!decide (a < c ∨ a = c ∧ b < d) && !PyData.eqv (.tuple [.int a, .int b]) (.tuple [.int c, .int d])), .bool (!decide (a < c ∨ a = c ∧ b < d))])) = false := by
  have e : PyData.eqv (.tuple [.int a, .int b]) (.tuple [.int c, .int d]) = decide (a = c ∧ b = d) := by
    rw [eqv_pair, Bool.eq_iff_iff]
    simp
  have e1 : decide (a < c ∨ a = c ∧ b ≤ d) = (decide (a < c ∨ a = c ∧ b < d) || decide (a = c ∧ b = d)) := by
    rw [Bool.eq_iff_iff]
    simp only [Bool.or_eq_true, decide_eq_true_eq]
    omega
  have e2 : decide (c < a ∨ a = c ∧ d < b) = (!decide (a < c ∨ a = c ∧ b < d) && !decide (a = c ∧ b = d)) := by
    rw [Bool.eq_iff_iff]
    simp only [Bool.and_eq_true, Bool.not_eq_true', decide_eq_true_eq, decide_eq_false_iff_not]
    omega
  have e3 : decide (c < a ∨ a = c ∧ d ≤ b) = (!decide (a < c ∨ a = c ∧ b < d)) := by
    rw [Bool.eq_iff_iff]
    simp only [Bool.not_eq_true', decide_eq_true_eq, decide_eq_false_iff_not]
    omega
  rw [e, e1, e2, e3]
  simp [PyData.eqv, PyData.eqvAll]
theorem absB {x m : Int} (h : (if x < 0 then -x else x) ≤ m) : -m ≤ x ∧ x ≤ m := by
  split at h <;> omega
theorem ltAt {a b c d n m : Int} (hn : n = 1000000000 ∨ n = 1000000000000000000000000000000) (hm : m ≤ 1000000) (ha : -m ≤ a ∧ a ≤ m) (hb : -m ≤ b ∧ b ≤ m) (hc : -m ≤ c ∧ c ≤ m) (hd : -m ≤ d ∧ d ≤ m) : decide (a * n + b < c * n + d) = decide (a < c ∨ a = c ∧ b < d) := by
  rw [Bool.eq_iff_iff]
  simp only [decide_eq_true_eq]
  rcases hn with rfl | rfl <;> omega
theorem eqAt {a b c d n m : Int} (hn : n = 1000000000 ∨ n = 1000000000000000000000000000000) (hm : m ≤ 1000000) (ha : -m ≤ a ∧ a ≤ m) (hb : -m ≤ b ∧ b ≤ m) (hc : -m ≤ c ∧ c ≤ m) (hd : -m ≤ d ∧ d ≤ m) : decide (V.int (a * n + b) = V.int (c * n + d)) = (decide (V.int a = V.int c) && decide (V.int b = V.int d)) := by
  rw [Bool.eq_iff_iff]
  simp only [Bool.and_eq_true, decide_eq_true_eq, V.int.injEq]
  rcases hn with rfl | rfl <;> omega
end Rd
/-! ## max(xs, key=int) of a list of ints -/
namespace MxK
open PySem PySem.Spec PyProof.Rows L2
section
variable {prog : Program} {w : World} {A : Around} {E : Value → Shared → Prop} {s : Shared} {l I S : Addr} {vs : List Value} {ns : List Int} {Z : Result → Shared → Prop}
/-- what the walk keeps: the older objects, the best with its key in S, the walker's place in I -/
structure St (s : Shared) (l I S : Addr) (h : Heap) (j : Nat) (M : Int) (tv tb : Tok) : Prop where
  old : ∀ b o, s.heap.get? b = some o → h.get? b = some o
  sto : ∃ c, h.get? S = some (seqObj "list" #[.int M tv, .int M tb] c)
  itr : h.IsListIter I l j
theorem St.list {h : Heap} {j : Nat} {M : Int} {tv tb : Tok} (K : St s l I S h j M tv tb) (hl : s.heap.IsList l vs.toArray) : h.IsList l vs.toArray := by
  obtain ⟨o, e, r⟩ := hl
  exact ⟨o, K.old _ _ e, r⟩
theorem getD_of {ns : List Int} {i : Nat} {n : Int} (h : ns[i]? = some n) : ns.getD i 0 = n := by simp [h]
theorem item {i : Nat} {v : Value} (hi : IntsAre vs ns) (h : vs[i]? = some v) : ∃ t, v = .int (ns.getD i 0) t ∧ ns.getD i 0 ∈ ns := by
  have hlen := hi.length
  have h1 : i < vs.length := (List.getElem?_eq_some_iff.mp h).1
  have h2 : ns[i]? = some (ns[i]'(by omega)) := List.getElem?_eq_getElem (by omega)
  obtain ⟨t, ht⟩ := hi.get i _ h2
  rw [h] at ht
  cases ht
  exact ⟨t, by rw [getD_of h2], by rw [getD_of h2]; exact List.getElem_mem _⟩
theorem loop (hh : A.handled = none) (hl : s.heap.IsList l vs.toArray) (hi : IntsAre vs ns) (hlI : l ≠ I) (hSI : S ≠ I) (nS : s.heap.get? S = none) (nI : s.heap.get? I = none)
    (done : ∀ h' tk' M t, (∀ b o, s.heap.get? b = some o → h'.get? b = some o) → M ∈ ns → (∀ a ∈ ns, a ≤ M) → Z (.ok (.ret (.int M t))) { s with heap := h', toks := tk' }) :
    ∀ (r j : Nat) (h : Heap) (tk : Nat) (M : Int) (tv tb : Tok), vs.length - j = r → j ≤ vs.length → St s l I S h j M tv tb → M ∈ ns → (∀ i, i < j → ns.getD i 0 ≤ M) →
      codeAny (model prog w) A (.builtin "max.loop" ⟨[.ref I, .type "int", .ref S], []⟩) Z { s with heap := h, toks := tk } := by
  have nm : (toString "max" ++ toString ".loop" : String) = "max.loop" := by decide
  have Wk := Walks.list (prog := prog) (w := w) (A := A.in1) hh I l hlI vs.toArray
  have zs : vs.toArray.size = vs.length := List.size_toArray ..
  have hlen := hi.length
  intro r
  induction r with
  | zero =>
    intro j h tk M tv tb hr hj K hM hb
    have ej : j = vs.length := by omega
    obtain ⟨c, gS⟩ := K.sto
    refine codeAny_builtin PySem.F.entry_max_loop (?_ : _)
    rw [Around.under_plainId (PySem.F.plain_max_loop : _) _]
    show wpAny _ A.in1 (seqItems? (.ref S) >>= fun _ => _) _ _ _
    refine wpAny_bind (wpAny_seqItems gS rfl (?_ : _))
    show wpAny _ A.in1 (tryCatch (pyNext (.ref I)) _ >>= fun _ => _) _ _ _
    refine wpAny_bind (wpAny_tryCatch (Wk.done _ _ _ ⟨by rw [zs, ← ej]; exact K.itr, K.list hl⟩ fun h' tk' kept => ?_))
    have gS' := kept S _ (by simpa using hSI) gS
    have sb := Heap.SameBut.update h' S (Obj.mapSeq fun _ => (#[] : Array Value))
    show wpAny _ A.in1 (updateSeq S (fun _ => #[]) >>= fun _ => _) _ _ _
    refine wpAny_bind (wpAny_updateSeq gS' rfl (wpAny_bind (wpAny_letGo (wpAny_pure (done _ _ M tv (fun b o q => ?_) hM (fun a ha => ?_))))))
    · have nb : b ≠ S := fun z => by rw [z, nS] at q; cases q
      have ni : b ≠ I := fun z => by rw [z, nI] at q; cases q
      rw [sb.2 b nb]
      exact kept b o (by simpa using ni) (K.old b o q)
    · obtain ⟨i, hi1, rfl⟩ := List.getElem_of_mem ha
      have := hb i (by omega)
      rw [getD_of (List.getElem?_eq_getElem hi1)] at this
      exact this
  | succ r ih =>
    intro j h tk M tv tb hr hj K hM hb
    have lt : j < vs.length := by omega
    obtain ⟨c, gS⟩ := K.sto
    refine codeAny_builtin PySem.F.entry_max_loop (?_ : _)
    rw [Around.under_plainId (PySem.F.plain_max_loop : _) _]
    show wpAny _ A.in1 (seqItems? (.ref S) >>= fun _ => _) _ _ _
    refine wpAny_bind (wpAny_seqItems gS rfl (?_ : _))
    show wpAny _ A.in1 (tryCatch (pyNext (.ref I)) _ >>= fun _ => _) _ _ _
    refine wpAny_bind (wpAny_tryCatch (Wk.item j _ _ _ (by rw [zs]; exact lt) ⟨K.itr, K.list hl⟩ fun v h' tk' hP st kept => ?_))
    obtain ⟨t, rfl, hn⟩ := item hi (show vs[j]? = some v by simpa using hP)
    have gS' := kept S _ (by simpa using hSI) gS
    have K' : ∀ b o, s.heap.get? b = some o → h'.get? b = some o := fun b o q => by
      have ni : b ≠ I := fun z => by rw [z, nI] at q; cases q
      exact kept b o (by simpa using ni) (K.old b o q)
    have bN : ∀ x, M ≤ x → ns.getD j 0 ≤ x → ∀ i, i < j + 1 → ns.getD i 0 ≤ x := fun x h1 h2 i hi1 => by
      by_cases e : i = j
      · rw [e]; exact h2
      · exact Int.le_trans (hb i (by omega)) h1
    generalize hx : ns.getD j 0 = x at hn bN ⊢
    show wpAny _ A.in1 (tryCatch (holding [.int x t] (call (.type "int") [.int x t])) _ >>= fun _ => _) _ _ _
    refine wpAny_bind (wpAny_tryCatch (wpAny_holding (call_int_int ?_)))
    show wpAny _ A.in1 (tryCatch (holding [.int x t, .int x t] (richCompare .Gt (.int x t) (.int M tb) >>= fun _ => _)) _ >>= fun _ => _) _ _ _
    refine wpAny_bind (wpAny_tryCatch (wpAny_holding (wpAny_bind (PyProof.Rows.gt_int ?_))))
    refine wpAny_bind (wpAny_holding (wpAny_truthy_bool ?_))
    refine wpAny_bind (wpAny_letGo (wpAny_pure (?_ : _)))
    by_cases q : M < x
    · have sb := Heap.SameBut.update h' S (Obj.mapSeq fun _ => #[.int x t, .int x t])
      have gN : ∃ c2, (h'.update S (Obj.mapSeq fun _ => #[.int x t, .int x t])).get? S = some (seqObj "list" #[.int x t, .int x t] c2) := ⟨_, get?_update_seq gS' fun _ => #[.int x t, .int x t]⟩
      obtain ⟨oI, gI, oc, od⟩ := id st.1
      simp only [q, decide_true, if_true]
      refine wpAny_bind (wpAny_updateSeq gS' rfl (wpAny_bind (wpAny_letGo ?_)))
      rw [nm]
      refine wpAny_pure ⟨plainId_quiet (PySem.F.plain_max_loop : _) _, ih (j + 1) _ _ x t t (by omega) lt ⟨fun b o e => ?_, gN, ⟨oI, (sb.2 I hSI.symm).trans gI, oc, od⟩⟩ hn (bN x (by omega) (Int.le_refl _))⟩
      have nb : b ≠ S := fun z => by rw [z, nS] at e; cases e
      rw [sb.2 b nb]
      exact K' b o e
    · simp only [q, decide_false, Bool.false_eq_true, if_false]
      refine wpAny_bind (wpAny_letGo (?_ : _))
      rw [nm]
      exact wpAny_pure ⟨plainId_quiet (PySem.F.plain_max_loop : _) _, ih (j + 1) _ _ M tv tb (by omega) lt ⟨K', ⟨c, gS'⟩, st.1⟩ hM (bN M (Int.le_refl _) (by omega))⟩
theorem max_key_int {Q : Value → Shared → Prop} (hh : A.handled = none) (hl : s.heap.IsList l vs.toArray) (hi : IntsAre vs ns) (hne : 0 < ns.length)
    (k : ∀ h' tk' M t, (∀ b o, s.heap.get? b = some o → h'.get? b = some o) → M ∈ ns → (∀ a ∈ ns, a ≤ M) → Q (.int M t) { s with heap := h', toks := tk' }) :
    wpAny (model prog w) A (call (.builtin "max") [.ref l] [(Str.ofString "key", .type "int")]) Q E s := by
  have nm : (toString "max" ++ toString ".loop" : String) = "max.loop" := by decide
  obtain ⟨ol, el, _⟩ := id hl
  have hlen := hi.length
  have ll : l < s.heap.objs.size := Heap.lt_size el
  refine kmb_tree PySem.F.kind_max PySem.F.plain_max PySem.F.entry_max (kmb_max_key _ _) (?_ : _)
  show wpAny _ A.in1 (Builtin.Builtins.bindParams "max" ["key", "default"] 0 ⟨[], [(Str.ofString "key", .type "int")]⟩ >>= fun _ => _) _ _ s
  refine wpAny_bind (wpAny_of_eq (show Builtin.Builtins.bindParams "max" ["key", "default"] 0 ⟨[], [(Str.ofString "key", .type "int")]⟩ = pure [some (.type "int"), none] from rfl) (wpAny_bind (wpAny_pure ?_)))
  refine wpAny_bind (wpAny_pyIter_list hl (wpAny_bind (wpAny_newList ?_ (Nat.zero_le _))))
  rw [nm]
  generalize hG : s.heap.push { cls := .type "list_iterator", data := .fields #[.ref l, .int 0 0] } = G
  have gz : G.objs.size = s.heap.objs.size + 1 := by rw [← hG]; exact size_push' ..
  have gI0 : G.get? s.heap.objs.size = some { cls := .type "list_iterator", data := .fields #[.ref l, .int 0 0] } := by rw [← hG]; exact Heap.get?_push_size _ rfl
  have gI : (G.push (seqObj "list" #[] 0)).get? s.heap.objs.size = some { cls := .type "list_iterator", data := .fields #[.ref l, .int 0 0] } := Heap.get?_push_of_some _ gI0
  have gS : (G.push (seqObj "list" #[] 0)).get? G.objs.size = some (seqObj "list" #[] 0) := Heap.get?_push_size _ rfl
  have old : ∀ b o, s.heap.get? b = some o → (G.push (seqObj "list" #[] 0)).get? b = some o := fun b o e => by
    rw [← hG]
    exact Heap.get?_push_of_some _ (Heap.get?_push_of_some _ e)
  have hlI : l ≠ s.heap.objs.size := Nat.ne_of_lt ll
  have hSI : G.objs.size ≠ s.heap.objs.size := by omega
  have nI : s.heap.get? s.heap.objs.size = none := Heap.get?_none_of_le (Nat.le_refl _)
  have nS : s.heap.get? G.objs.size = none := Heap.get?_none_of_le (by omega)
  have Wk := Walks.list (prog := prog) (w := w) (A := A.in1) hh s.heap.objs.size l hlI vs.toArray
  have zs : vs.toArray.size = vs.length := List.size_toArray ..
  refine wpAny_pure ⟨plainId_quiet (PySem.F.plain_max_loop : _) _, codeAny_builtin PySem.F.entry_max_loop (?_ : _)⟩
  rw [Around.under_plainId (PySem.F.plain_max_loop : _) _]
  show wpAny _ A.in1 (seqItems? (.ref _) >>= fun _ => _) _ _ _
  refine wpAny_bind (wpAny_seqItems gS rfl (?_ : _))
  show wpAny _ A.in1 (tryCatch (pyNext (.ref s.heap.objs.size)) _ >>= fun _ => _) _ _ _
  have ol2 : (G.push (seqObj "list" #[] 0)).IsList l vs.toArray := by
    obtain ⟨o, e, z⟩ := id hl
    exact ⟨o, old _ _ e, z⟩
  refine wpAny_bind (wpAny_tryCatch (Wk.item 0 _ _ _ (by rw [zs]; omega) ⟨⟨_, gI, rfl, rfl⟩, ol2⟩ fun v h' tk' hP st kept => ?_))
  obtain ⟨t, rfl, hn⟩ := item hi (show vs[0]? = some v by simpa using hP)
  have gS' := kept _ _ (by simpa using hSI) gS
  generalize hx : ns.getD 0 0 = x at hn ⊢
  show wpAny _ A.in1 (tryCatch (holding [.int x t] (call (.type "int") [.int x t])) _ >>= fun _ => _) _ _ _
  refine wpAny_bind (wpAny_tryCatch (wpAny_holding (call_int_int ?_)))
  have sb := Heap.SameBut.update h' G.objs.size (Obj.mapSeq fun _ => #[.int x t, .int x t])
  have gN : ∃ c2, (h'.update G.objs.size (Obj.mapSeq fun _ => #[.int x t, .int x t])).get? G.objs.size = some (seqObj "list" #[.int x t, .int x t] c2) := ⟨_, get?_update_seq gS' fun _ => #[.int x t, .int x t]⟩
  obtain ⟨oI, gI', oc, od⟩ := id st.1
  show wpAny _ A.in1 (updateSeq G.objs.size (fun _ => #[.int x t, .int x t]) >>= fun _ => _) _ _ _
  refine wpAny_bind (wpAny_updateSeq gS' rfl (?_ : _))
  rw [nm]
  refine wpAny_pure ⟨plainId_quiet (PySem.F.plain_max_loop : _) _, loop hh hl hi hlI hSI nS nI (fun h2 tk2 M t2 q hM hb => k h2 tk2 M t2 q hM hb) _ 1 _ _ x t t rfl (by omega) ⟨fun b o e => ?_, gN, ⟨oI, (sb.2 _ hSI.symm).trans gI', oc, od⟩⟩ hn (fun i hi1 => ?_)⟩
  · have nb : b ≠ G.objs.size := fun z => by rw [z, nS] at e; cases e
    have ni : b ≠ s.heap.objs.size := fun z => by rw [z, nI] at e; cases e
    rw [sb.2 b nb]
    exact kept b o (by simpa using ni) (old b o e)
  · have e : i = 0 := by omega
    rw [e, hx]
    exact Int.le_refl _
end
def rMaxK (K : PySem.W.Frag) : List V → List V → Hp → VK → Prop := fun vs zs H Q => ∃ (a : Addr) (ns : List Int), vs = [V.ref a] ∧ zs = [.ty "int"] ∧ SqL K H a (ns.map V.int) ∧ 0 < ns.length ∧ ∀ m, m ∈ ns → (∀ y, y ∈ ns → y ≤ m) → Q (.int m) H
theorem ck_max {X : Cx} (hc : X.calm = true) : CallRK X (.builtin "max") ["key"] (rMaxK X.K) := by
  intro pins s σ H xs zs us ws Q I r r2 h
  obtain ⟨a, ns, rfl, rfl, hs, hne, q⟩ := h
  obtain ⟨its, rv, hl, _⟩ := I.list hs
  obtain ⟨u, rfl, ru⟩ := vals1 r2
  cases ru
  rw [Vals.ref1 r]
  exact max_key_int (I.ok.hd hc) hl.isList rv.ints hne fun h' tk m t' hk h1 h2 => ⟨.int _, H, I.kept hk, ⟨_, rfl⟩, q m h1 h2⟩
end MxK
/-! ## an object of a built-in type without the number's slot, left of an own instance -/
namespace Own
open PySem PySem.Spec PyProof.Rows
section
variable {prog : Program} {w : World} {A : Around} {E : Value → Shared → Prop} {s : Shared} {K : PySem.W.Frag} {x C dx f f0 : Addr} {od : Option Obj} {op : Operator} {T : String}
theorem binR0 {a : Value} {Q : Value → Shared → Prop} (KX : K.In s.heap) (I : PySem.W.InstAt s.heap x (PySem.W.instObj C dx) C od) (hc : PySem.W.selfFirst K C = true) (ta : PySem.W.Looks (model prog w) s.heap (typeOf a) (.type T))
    (h0 : PySem.W.findIn K (.ref C) (PySem.dunder op.info.2) = some (some (.ref f0))) (h1 : PySem.W.findIn K (.ref C) (dunderR op.info.2) = some (some (.ref f))) (hf : PySem.W.isFn K (.ref f) = true)
    (hfill : PySem.W.Looks (model prog w) s.heap (fillsNumberSlot (.type T) op.info.2) false)
    (h : wpAny (model prog w) A (call (.ref f) [.ref x, a]) (PySem.W.CmpBack Q) E s) : wpAny (model prog w) A (binaryOp op a (.ref x)) Q E s := by
  obtain ⟨cd, rest, hcd, hm⟩ := PySem.W.ksp_first hc
  rcases hi : op.info with ⟨sym, nm⟩
  rw [hi] at h0 h1 hfill
  dsimp only at h0 h1 hfill
  have two := PySem.W.ksp_try KX I h1 hf h
  obtain ⟨hh, g, d, tt, os⟩ := s
  have L1 : PySem.W.Looks (model prog w) hh (typeOf (.ref x)) (.ref C) := I.type
  have L3 : PySem.W.Looks (model prog w) hh (fillsNumberSlot (.ref C) nm) true := PySem.W.fills_K KX hcd hm h0
  have nc : (Value.type T == Value.ref C) = false := Bool.eq_false_iff.mpr fun q => nomatch beq_iff_eq.mp q
  simp only [binaryOp, hi]
  refine wpAny_holding (wpAny_bind (?_ : _))
  unfold binaryOp1
  refine wpAny_bind (ta.at (wpAny_bind (L1.at (wpAny_bind (hfill.at ?_)))))
  simp only [nc, Bool.false_eq_true, if_false]
  refine wpAny_bind (L3.at (?_ : _))
  simp only [Bool.false_and, Bool.false_eq_true, if_false, pure_bind, Bool.not_false, Bool.and_self, if_true]
  refine wpAny_bind (wpAny_mono two (fun r s' q => ?_) fun _ _ e => e)
  obtain ⟨v, rfl, q⟩ := q
  exact wpAny_bind (wpAny_rule (wpAny_pure (wpAny_pure q)))
end
end Own
namespace Own
open PySem PySem.Spec PyProof.Rows L2
section
variable {prog : Program} {w : World} {A : Around} {E : Value → Shared → Prop} {s : Shared} {K : PySem.W.Frag} {x C dx f f0 : Addr} {od : Option Obj} {op : Operator} {T : String}
theorem binT0 {b : Value} {Q : Value → Shared → Prop} (KX : K.In s.heap) (I : PySem.W.InstAt s.heap x (PySem.W.instObj C dx) C od) (hc : PySem.W.selfFirst K C = true) (tb : PySem.W.Looks (model prog w) s.heap (typeOf b) (.type T))
    (h0 : PySem.W.findIn K (.ref C) (PySem.dunder op.info.2) = some (some (.ref f))) (hf : PySem.W.isFn K (.ref f) = true) (hfill : PySem.W.Looks (model prog w) s.heap (fillsNumberSlot (.type T) op.info.2) false)
    (h : wpAny (model prog w) A (call (.ref f) [.ref x, b]) (PySem.W.CmpBack Q) E s) : wpAny (model prog w) A (binaryOp op (.ref x) b) Q E s := by
  obtain ⟨cd, rest, hcd, hm⟩ := PySem.W.ksp_first hc
  rcases hi : op.info with ⟨sym, nm⟩
  rw [hi] at h0 hfill
  dsimp only at h0 hfill
  have one := PySem.W.ksp_try KX I h0 hf h
  obtain ⟨hh, g, d, tt, os⟩ := s
  have L1 : PySem.W.Looks (model prog w) hh (typeOf (.ref x)) (.ref C) := I.type
  have L3 : PySem.W.Looks (model prog w) hh (fillsNumberSlot (.ref C) nm) true := PySem.W.fills_K KX hcd hm h0
  have nc : (Value.ref C == Value.type T) = false := Bool.eq_false_iff.mpr fun q => nomatch beq_iff_eq.mp q
  simp only [binaryOp, hi]
  refine wpAny_holding (wpAny_bind (?_ : _))
  unfold binaryOp1
  refine wpAny_bind (L1.at (wpAny_bind (tb.at (wpAny_bind (L3.at (?_ : _))))))
  simp only [nc, Bool.false_eq_true, if_false]
  refine wpAny_bind (hfill.at (?_ : _))
  simp only [Bool.and_false, Bool.false_and, Bool.false_eq_true, if_false, pure_bind, Bool.not_false, Bool.and_self, if_true]
  refine wpAny_bind (wpAny_mono one (fun r s' q => ?_) fun _ _ e => e)
  obtain ⟨v, rfl, q⟩ := q
  exact wpAny_pure (wpAny_pure q)
end
section
variable {X : Cx} {CX : CXT} {k : Nat} {f C : Addr} {fd : FuncData} {ps : List Str} {sp : Sp} {E : XK} {op : Operator} {Ts : List String}
/-- built-in types that have no number's slot -/
structure NoSlot (K : PySem.W.Frag) (op : Operator) (T : String) : Prop where
  l : ∃ fo ro, PySem.W.findIn K (.type T) (PySem.dunder op.info.2) = some fo ∧ PySem.W.findIn K (.type T) (dunderR op.info.2) = some ro ∧ ((fo.isSome && !isSeqSlot fo) || (ro.isSome && !isSeqSlot ro)) = false
theorem NoSlot.fills {K : PySem.W.Frag} {T : String} {M : Model} {h : Heap} (Z : NoSlot K op T) (KX : K.In h) : PySem.W.Looks M h (fillsNumberSlot (.type T) op.info.2) false := by
  obtain ⟨fo, ro, h1, h2, e⟩ := Z.l
  have z := PySem.W.ksp_fillsT (M := M) KX h1 h2
  rw [e] at z
  exact z
/-- any object of such a type left of an own instance: the reflected operator is asked -/
def rOddL (K : PySem.W.Frag) (C : Addr) (Ts : List String) (sp : Sp) (E : XK) : R2 := fun x y H Q => ∃ a dx fs T, y = .ref a ∧ H a = some (.ins C dx fs) ∧ T ∈ Ts ∧ TyX K H x (.type T) ∧ sp [.ref a, x] H Q E
theorem opL0 (F : FnOk X.prog X.w X.K X.mg X.base CX k f fd ps sp) (hr : Room k X.A) (Z : BinR X.K C f op) (N : ∀ T ∈ Ts, NoSlot X.K op T) (hb : Binds X.K fd ps []) (hx : Passes CX X E) : OpR X (binaryOp op) (rOddL X.K C Ts sp E) := by
  rintro pins s σ H x y u v Q I rx ry ⟨a, dx, fs, T, rfl, ha, hT, ty, q⟩
  cases ry
  obtain ⟨od, J⟩ := inst I ha
  obtain ⟨z1, ⟨f0, z2⟩, z3, z4, z5⟩ := Z
  exact binR0 I.kIn J z1 (typed I rx ty) z2 z3 z4 ((N T hT).fills I.kIn) (back (run2 (x := .ref a) F hr hb hx I rfl rx q))
/-- any object of such a type right of an own instance -/
def rOddR (K : PySem.W.Frag) (C : Addr) (Ts : List String) (sp : Sp) (E : XK) : R2 := fun x y H Q => ∃ a dx fs T, x = .ref a ∧ H a = some (.ins C dx fs) ∧ T ∈ Ts ∧ TyX K H y (.type T) ∧ sp [.ref a, y] H Q E
theorem opR0 (F : FnOk X.prog X.w X.K X.mg X.base CX k f fd ps sp) (hr : Room k X.A) (B : Bin X.K C f op) (N : ∀ T ∈ Ts, NoSlot X.K op T) (hb : Binds X.K fd ps []) (hx : Passes CX X E) : OpR X (binaryOp op) (rOddR X.K C Ts sp E) := by
  rintro pins s σ H x y u v Q I rx ry ⟨a, dx, fs, T, rfl, ha, hT, ty, q⟩
  cases rx
  obtain ⟨od, J⟩ := inst I ha
  exact binT0 I.kIn J B.first (typed I ry ty) B.at_ B.fn ((N T hT).fills I.kIn) (back (run2 (x := .ref a) F hr hb hx I rfl ry q))
end
end Own
namespace Own
open PySem PySem.Spec PyProof.Rows
section
variable {prog : Program} {w : World} {A : Around} {E : Value → Shared → Prop} {s : Shared} {K : PySem.W.Frag} {x C dx f f0 : Addr} {od : Option Obj} {op : Operator} {id : String}
theorem declB_add {b : Bool} {Q : Shared → Prop} (h : s.heap.get? x = some (PySem.W.instObj C dx)) (hq : Q s) :
    wpAny (model prog w) A (Builtin.«int.__add__» ⟨[.bool b, .ref x], []⟩) (fun fin s' => ∃ v, fin = .done (.ret v) ∧ v = .notImplemented ∧ Q s') E s := by
  obtain ⟨hp, g, d, tk, os⟩ := s
  wp_walk using wpAny_load h
  exact ⟨_, rfl, rfl, hq⟩
theorem declB_sub {b : Bool} {Q : Shared → Prop} (h : s.heap.get? x = some (PySem.W.instObj C dx)) (hq : Q s) :
    wpAny (model prog w) A (Builtin.«int.__sub__» ⟨[.bool b, .ref x], []⟩) (fun fin s' => ∃ v, fin = .done (.ret v) ∧ v = .notImplemented ∧ Q s') E s := by
  obtain ⟨hp, g, d, tk, os⟩ := s
  wp_walk using wpAny_load h
  exact ⟨_, rfl, rfl, hq⟩
theorem declB_mul {b : Bool} {Q : Shared → Prop} (h : s.heap.get? x = some (PySem.W.instObj C dx)) (hq : Q s) :
    wpAny (model prog w) A (Builtin.«int.__mul__» ⟨[.bool b, .ref x], []⟩) (fun fin s' => ∃ v, fin = .done (.ret v) ∧ v = .notImplemented ∧ Q s') E s := by
  obtain ⟨hp, g, d, tk, os⟩ := s
  wp_walk using wpAny_load h
  exact ⟨_, rfl, rfl, hq⟩
theorem slotB_add : Slot "bool" "__add__" "int.__add__" :=
  .of (T := "bool") (name := "__add__") (owner := "int") (n := "__add__") (by rw [typeLookup_type, builtinLookup_eq_fast]; kernel_rfl) (by decide +kernel) (by decide +kernel) (by decide +kernel) (.inl (by decide +kernel)) (by rw [isSubtype_type]; kernel_rfl)
theorem slotB_sub : Slot "bool" "__sub__" "int.__sub__" :=
  .of (T := "bool") (name := "__sub__") (owner := "int") (n := "__sub__") (by rw [typeLookup_type, builtinLookup_eq_fast]; kernel_rfl) (by decide +kernel) (by decide +kernel) (by decide +kernel) (.inl (by decide +kernel)) (by rw [isSubtype_type]; kernel_rfl)
theorem slotB_mul : Slot "bool" "__mul__" "int.__mul__" :=
  .of (T := "bool") (name := "__mul__") (owner := "int") (n := "__mul__") (by rw [typeLookup_type, builtinLookup_eq_fast]; kernel_rfl) (by decide +kernel) (by decide +kernel) (by decide +kernel) (.inl (by decide +kernel)) (by rw [isSubtype_type]; kernel_rfl)
end
end Own
namespace Own
open PySem PySem.Spec PyProof.Rows
section
variable {prog : Program} {w : World} {A : Around} {E : Value → Shared → Prop} {s : Shared} {K : PySem.W.Frag} {x C dx f f0 : Addr} {od : Option Obj} {op : Operator} {id : String}
/-- a truth declines an operator beside an instance, then the instance's reflected one is asked -/
theorem binRB {p : Bool} {Q : Value → Shared → Prop} (KX : K.In s.heap) (I : PySem.W.InstAt s.heap x (PySem.W.instObj C dx) C od) (hc : PySem.W.selfFirst K C = true)
    (h0 : PySem.W.findIn K (.ref C) (PySem.dunder op.info.2) = some (some (.ref f0))) (h1 : PySem.W.findIn K (.ref C) (dunderR op.info.2) = some (some (.ref f))) (hf : PySem.W.isFn K (.ref f) = true)
    (hsub : PySem.W.subIn K (.ref C) (.type "bool") = some false) (hfill : fillsNumberSlot (.type "bool") op.info.2 = pure true) (slot : Slot "bool" (PySem.dunder op.info.2) id)
    (decl : wpAny (model prog w) A (call (.builtin id) [.bool p, .ref x]) (fun v s' => v = .notImplemented ∧ s'.heap = s.heap ∧ s'.gens = s.gens ∧ s'.drawn = s.drawn ∧ s'.os = s.os ∧ s'.toks = s.toks) E s)
    (h : wpAny (model prog w) A (call (.ref f) [.ref x, .bool p]) (PySem.W.CmpBack Q) E s) : wpAny (model prog w) A (binaryOp op (.bool p) (.ref x)) Q E s := by
  obtain ⟨cd, rest, hcd, hm⟩ := PySem.W.ksp_first hc
  rcases hi : op.info with ⟨sym, nm⟩
  rw [hi] at h0 h1 hfill slot
  dsimp only at h0 h1 hfill slot
  have two := PySem.W.ksp_try KX I h1 hf h
  obtain ⟨hh, g, d, tt, os⟩ := s
  have L1 : PySem.W.Looks (model prog w) hh (typeOf (.ref x)) (.ref C) := I.type
  have L3 : PySem.W.Looks (model prog w) hh (fillsNumberSlot (.ref C) nm) true := PySem.W.fills_K KX hcd hm h0
  have L5 : PySem.W.Looks (model prog w) hh (isSubtype (.ref C) (.type "bool")) false := PySem.W.looks_subIn KX hsub
  have hne : (Value.type "bool" == Value.ref C) = false := Bool.eq_false_iff.mpr fun q => by cases beq_iff_eq.mp q
  have hpy : numberSlotInPython (.type "bool") nm = pure false := rfl
  have one : wpAny (model prog w) A (tryMethod (.bool p) (PySem.dunder nm) (.ref x)) (fun r s' => r = none ∧ s'.heap = hh ∧ s'.gens = g ∧ s'.drawn = d ∧ s'.os = os ∧ s'.toks = tt) E ⟨hh, g, d, tt, os⟩ :=
    wpAny_tryMethod_declines (T := "bool") (typeIs_bool' _ p) slot (wpAny_mono decl (fun v s' q => ⟨q.1, rfl, q.2⟩) fun _ _ e => e)
  simp only [binaryOp, hi]
  refine wpAny_holding (wpAny_bind ?_)
  unfold binaryOp1
  refine wpAny_bind (wpAny_typeOf (typeIs_bool' _ p) (wpAny_bind (L1.at (wpAny_bind (wpAny_of_eq hfill ?_)))))
  simp only [hne, Bool.false_eq_true, if_false]
  refine wpAny_bind (L3.at ?_)
  simp only [Bool.and_self, if_true]
  refine wpAny_bind (L5.at ?_)
  simp only [Bool.false_eq_true, if_false, pure_bind, Bool.not_false, Bool.and_self, if_true, hpy]
  refine wpAny_bind (wpAny_mono one (fun r s' q => ?_) fun _ _ e => e)
  obtain ⟨h1, g1, d1, t1, o1⟩ := s'
  obtain ⟨rfl, q1, q2, q3, q4, q5⟩ := q
  dsimp only at q1 q2 q3 q4 q5
  subst q1 q2 q3 q4 q5
  dsimp only
  refine wpAny_bind (wpAny_mono two (fun r s' q => ?_) fun _ _ e => e)
  obtain ⟨v, rfl, q⟩ := q
  exact wpAny_bind (wpAny_rule (wpAny_pure (wpAny_pure q)))
end
end Own
namespace Own
open PySem PySem.Spec PyProof.Rows L2
section
variable {X : Cx} {CX : CXT} {k : Nat} {f C : Addr} {fd : FuncData} {ps : List Str} {sp : Sp} {E : XK} {op : Operator}
def rRightB (C : Addr) (sp : Sp) (E : XK) : R2 := fun x y H Q => ∃ i a dx fs, x = .bl i ∧ y = .ref a ∧ H a = some (.ins C dx fs) ∧ sp [.ref a, .bl i] H Q E
theorem opRB_of {id : String} {B : Builtin} (hfill : fillsNumberSlot (.type "bool") op.info.2 = pure true) (slot : Slot "bool" (PySem.dunder op.info.2) id) (entry : entryFor table id = some B) (args : ∀ a b : Value, argsOk id ⟨[a, b], []⟩)
    (decl : ∀ {prog : Program} {w : World} {A : Around} {E : Value → Shared → Prop} {s : Shared} {x C dx : Addr} {p : Bool} {Q : Shared → Prop}, s.heap.get? x = some (PySem.W.instObj C dx) → Q s →
      wpAny (model prog w) A (B ⟨[.bool p, .ref x], []⟩) (fun fin s' => ∃ v, fin = .done (.ret v) ∧ v = .notImplemented ∧ Q s') E s)
    (F : FnOk X.prog X.w X.K X.mg X.base CX k f fd ps sp) (hr : Room k X.A) (Z : BinR X.K C f op) (zb : PySem.W.subIn X.K (.ref C) (.type "bool") = some false) (hb : Binds X.K fd ps []) (hx : Passes CX X E) : OpR X (binaryOp op) (rRightB C sp E) := by
  rintro pins s σ H x y u v Q I rx ry ⟨i, a, dx, fs, rfl, rfl, ha, q⟩
  cases (show u = Value.bool i from rx)
  cases ry
  obtain ⟨od, J⟩ := inst I ha
  obtain ⟨z1, ⟨f0, z2⟩, z3, z4, z5⟩ := Z
  exact binRB I.kIn J z1 z2 z3 z4 zb hfill slot (wpAny_call_entry slot (typeIs_bool' s i) entry (wpAny_mono (decl (Q := fun s' => s'.heap = s.heap ∧ s'.gens = s.gens ∧ s'.drawn = s.drawn ∧ s'.os = s.os ∧ s'.toks = s.toks) J.at_ ⟨rfl, rfl, rfl, rfl, rfl⟩) (fun fin s' ⟨v, e, q⟩ => ⟨v, e, q⟩) fun _ _ e => e) (args _ _))
    (back (run2 (x := .ref a) (y := .bl i) F hr hb hx I rfl rfl q))
theorem opRBadd (F : FnOk X.prog X.w X.K X.mg X.base CX k f fd ps sp) (hr : Room k X.A) (Z : BinR X.K C f .Add) (zb : PySem.W.subIn X.K (.ref C) (.type "bool") = some false) (hb : Binds X.K fd ps []) (hx : Passes CX X E) : OpR X (binaryOp .Add) (rRightB C sp E) :=
  opRB_of PySem.F.fills_bool_add slotB_add PySem.F.entry_int_add PySem.F.args_int_add_2 declB_add F hr Z zb hb hx
theorem opRBsub (F : FnOk X.prog X.w X.K X.mg X.base CX k f fd ps sp) (hr : Room k X.A) (Z : BinR X.K C f .Sub) (zb : PySem.W.subIn X.K (.ref C) (.type "bool") = some false) (hb : Binds X.K fd ps []) (hx : Passes CX X E) : OpR X (binaryOp .Sub) (rRightB C sp E) :=
  opRB_of PySem.F.fills_bool_sub slotB_sub PySem.F.entry_int_sub PySem.F.args_int_sub_2 declB_sub F hr Z zb hb hx
theorem opRBmul (F : FnOk X.prog X.w X.K X.mg X.base CX k f fd ps sp) (hr : Room k X.A) (Z : BinR X.K C f .Mult) (zb : PySem.W.subIn X.K (.ref C) (.type "bool") = some false) (hb : Binds X.K fd ps []) (hx : Passes CX X E) : OpR X (binaryOp .Mult) (rRightB C sp E) :=
  opRB_of PySem.F.fills_bool_mul slotB_mul PySem.F.entry_int_mul PySem.F.args_int_mul_2 declB_mul F hr Z zb hb hx
end
end Own
/-! ## [x for x, b in zip(xs, bs) if b], bs a list of truths -/
namespace Rd
open PySem PySem.Spec PyProof.Rows L2
theorem wipe2 {σ : L2.St} {i j : Nat} {a b : Option V} (h : i ≠ j) : wipe (((wipe σ [i, j]).set i a).set j b) [i, j] = wipe σ [i, j] := by
  show (((((σ.set j none).set i none).set i a).set j b).set j none).set i none = (σ.set j none).set i none
  rw [List.set_set, List.set_set, List.set_comm _ _ h, List.set_set, List.set_set]
theorem lcZip {names : List V} {bs : List Bool} {K : PySem.W.Frag} {a b : Addr} {i1 i2 j1 j2 : Nat} {σ : L2.St} {H : Hp} {Q : VK} (hl : names.length = bs.length) (hn : names.length ≤ 1000) (e1 : σ[j1]? = some (some (.ref a))) (e2 : σ[j2]? = some (some (.ref b)))
    (h1 : SqL K H a names) {ws : List V} (h2' : SqL K H b ws) (ew : ws = bs.map V.bl)
    (hij : i1 ≠ i2) (li : i1 < σ.length) (lj : i2 < σ.length)
    (k : ∀ (p : Addr) (H' : Hp), H p = none → Same H H' → H' p = some (.lst (((names.zip bs).filter (·.2)).map (·.1))) → Q (.ref p) H') :
    tLc (iZip K (tCons (tVar j1) (tCons (tVar j2) tNil))) (gTup K 2 (gCons (gName i1) (gCons (gName i2) gNil))) (tB (tVar i2)) (tVar i1) [i1, i2] σ H Q := by
  subst ew
  have h2 := h2'
  have hw : ∀ x y, wipe (((wipe σ [i1, i2]).set i1 (some x)).set i2 (some y)) [i1, i2] = wipe σ [i1, i2] := fun x y => wipe2 hij
  have g1 : ∀ x y, (((wipe σ [i1, i2]).set i1 (some x)).set i2 (some y))[i1]? = some (some x) := fun x y => by
    rw [List.getElem?_set_ne (Ne.symm hij), List.getElem?_set_self (by rw [wipe_length]; exact li)]
  have g2 : ∀ x y, (((wipe σ [i1, i2]).set i1 (some x)).set i2 (some y))[i2]? = some (some y) := fun x y => by
    rw [List.getElem?_set_self (by rw [List.length_set, wipe_length]; exact lj)]
  refine lc ⟨_, e1, _, e2, a, b, _, _, rfl, h1, h2, fun D hD => lc_it (walk_zip (n := names.length) (by rw [List.length_map, ← hl, Nat.min_self])) (fun t H' => Same H H' ∧ H' D = some (.lst ((((names.zip bs).take t).filter (·.2)).map (·.1)))) ⟨same_upd hD (Same.refl _), upd_same⟩
    (fun t H' _ p => ⟨p.1.seq h1, p.1.seq h2⟩) (fun t v H0 H' ht p y => ?_) (fun H' p => ?_)⟩
  · obtain ⟨S, hd⟩ := p
    obtain ⟨T, x, y, rfl, hT, rfl, hx, hy⟩ := y
    dsimp only at hx hy
    have htb : t < bs.length := by omega
    have ey : y = .bl bs[t] := by
      rw [List.getElem?_map, List.getElem?_eq_getElem htb] at hy
      exact (Option.some.inj hy).symm
    subst ey
    have ex : names[t] = x := by
      rw [List.getElem?_eq_getElem ht] at hx
      exact Option.some.inj hx
    have nd : D ≠ T := ne_of_none hd hT
    have S' : Same H (upd H0 T (.tup [x, .bl bs[t]])) := same_upd (Same.free S hT) S
    have hd' : upd H0 T (.tup [x, .bl bs[t]]) D = some (.lst ((((names.zip bs).take t).filter (·.2)).map (·.1))) := by rw [upd_ne nd]; exact hd
    have tk : (names.zip bs).take (t + 1) = (names.zip bs).take t ++ [(x, bs[t])] := by
      rw [List.take_add_one, List.getElem?_eq_getElem (by rw [List.length_zip]; omega), List.getElem_zip, ex]
      rfl
    refine gtup (SqT.of upd_same) rfl (gcons (name (gcons (name (gnil ⟨hw _ _, tb (var (g2 _ _) (bl ?_))⟩)))))
    cases hb : bs[t] with
    | true =>
      rw [hb] at hd' S' tk
      refine iteT rfl (var (g1 _ _) ⟨_, hd', ?_, same_upd hD S', ?_⟩)
      · rw [List.length_map]
        refine small1000 (Nat.le_trans (List.length_filter_le _ _) ?_)
        rw [List.length_take, List.length_zip]
        omega
      · rw [upd_same, tk, List.filter_append, List.map_append]
        rfl
    | false =>
      rw [hb] at hd' S' tk
      refine iteF rfl ⟨S', ?_⟩
      rw [hd', tk, List.filter_append, List.map_append]
      simp
  · obtain ⟨S, hd⟩ := p
    rw [List.take_of_length_le (by rw [List.length_zip]; omega)] at hd
    exact k D H' hD S hd
end Rd
/-! ## isinstance of a caught error whatever its class; a call of a def that a name holds, whatever it is -/
namespace Ex2
open PySem PySem.Spec PyProof.Rows L2
def rIsE2 (K : PySem.W.Frag) (cls : Value) (d : Option Addr) (a : Addr) : List V → Hp → VK → Prop := fun xs H Q => ∃ D, cls = .ref D ∧ d = none ∧ ExcC K D ∧ rIsE K D a xs H Q
theorem call_isE2 {X : Cx} {K : PySem.W.Frag} (eK : X.K = K) {a : Addr} {cls : Value} {d : Option Addr} {oe : Obj} {pn : List (Addr × Obj)} (hz : Zc cls d oe) (hf : ∃ vs, oe.data = .fields vs) : CallR (X.suite a ((a, oe) :: pn)) (.builtin "isinstance") (rIsE2 K cls d a) := by
  subst eK
  rintro pins s σ H xs us Q I r ⟨D, rfl, rfl, C, q⟩
  exact call_isE C hz hf pins s σ H xs us Q I r q
/-- a def at f keeps sp, and may let errors out as sp says -/
structure HeldX (P : Program) (w : World) (K : PySem.W.Frag) (mg : Str → Option Value) (base : Heap) (k : Nat) (f : Addr) (sp : Sp) : Prop where
  ex : ∃ (j : Nat) (fd : FuncData) (ps : List Str), j ≤ k ∧ FnOk P w K mg base (L2.CX P w) j f fd ps sp ∧ PySem.W.keepIn K (.ref f) = true ∧ Binds K fd ps []
def tCallX (P : Program) (w : World) (K : PySem.W.Frag) (mg : Str → Option Value) (base : Heap) (k i : Nat) (E : L2.St → XK) (t : TA) : TE := fun σ H Q => ∃ f sp, HeldX P w K mg base k f sp ∧ σ[i]? = some (some (.ref f)) ∧ t σ H fun vs H1 => sp vs H1 Q (E σ)
section
variable {X : Cx} {k i : Nat} {E : L2.St → XK} {x : Str} {p pos : Pos} {e : Expr} {es : List Expr} {t : TA}
theorem pe_callX {P : Program} {w : World} {K : PySem.W.Frag} {mg : Str → Option Value} {base : Heap} (e1 : X.prog = P) (e2 : X.w = w) (e3 : X.K = K) (e4 : X.mg = mg) (e5 : X.base = base) (hr : Room k X.A) (hN : X.N[i]? = some x) (hv : Vis X.env.scope x) (hx : ∀ σ, PassesAt (L2.CX X.prog X.w) X σ (E σ)) (ha : PA X (e :: es) t)
    (h1 : (x == ("__debug__" : Str)) = false := by decide) (h2 : (x == ("__classdict__" : Str)) = false := by decide) (h3 : starEach (e :: es) X.env = (false, eval e X.env) :: starEach es X.env := by rfl) (h4 : (backTo pos (starEach es X.env)).any (·.1) = false := by rfl) :
    PE X (.Call (.Name x p) (e :: es) [] pos) (tCallX P w K mg base k i E t) := by
  subst e1 e2 e3 e4 e5
  refine ⟨fun pins s σ H Q I ⟨f, sp, ⟨⟨j, fd, ps, hj, F, kp, bd⟩⟩, at_, rest⟩ => ?_⟩
  refine wpAny_Call_Name_kw (thn ((pe_var (pos := p) hN hv h1 h2).run pins s σ H (fun w1 Hq => w1 = .ref f ∧ Hq = H) I ⟨.ref f, at_, rfl, rfl⟩) fun u s1 ⟨w1, Hq, I1, r1, ⟨e1, e2⟩⟩ => ?_)
  subst e1 e2
  cases r1
  exact PySem.W.callWith_K (h₀ := X.base) I.ok.mod.kin kp (thn (ha.run pos pins s1 σ _ _ I1 rest) fun us s2 ⟨vs, H2, I2, r, q⟩ => ⟨I2.kIn, run_fnS F (hr.mono hj) bd (hx σ) I2 r q⟩) h3 h4
end
end Ex2
/-! ## objects that are no integers; loops over written lists; one item of a list of anything -/
namespace Rd
open PySem PySem.Spec PyProof.Rows L2
def TS1 : List String := ["NoneType", "tuple", "list", "dict"]
/-- an address is marked as the source's -/
def IsSrc (_ : Addr) : Prop := True
def TS0 : List String := ["NoneType", "str", "tuple", "list", "dict"]
/-- none, a text, a tuple, a list of another length than two, a dict -/
inductive OddN (H : Hp) : V → Prop where
  | non : OddN H .non
  | str (x : Str) : OddN H (.str x)
  | tup {p : Addr} {xs : List V} (e : H p = some (.tup xs)) : OddN H (.ref p)
  | lst {p : Addr} {xs : List V} (e : H p = some (.lst xs)) (n : xs.length ≠ 2) : OddN H (.ref p)
  | dK {p : Addr} {kvs : List (Key × V)} (e : H p = some (.dK kvs)) : OddN H (.ref p)
theorem OddN.ty {K : PySem.W.Frag} {H : Hp} {v : V} : OddN H v → ∃ T, T ∈ TS0 ∧ TyX K H v (.type T)
  | .non => ⟨_, by decide, .base .non⟩
  | .str x => ⟨_, by decide, .base (.str x)⟩
  | .tup e => ⟨_, by decide, .base (.tup e)⟩
  | .lst e _ => ⟨_, by decide, .base (.lst e)⟩
  | .dK e => ⟨_, by decide, .base (.dK e)⟩
theorem OddN.same {H H' : Hp} {v : V} (S : Same H H') : OddN H v → OddN H' v
  | .non => .non
  | .str x => .str x
  | .tup e => .tup (S _ _ e)
  | .lst e n => .lst (S _ _ e) n
  | .dK e => .dK (S _ _ e)
theorem OddN.ty1 {K : PySem.W.Frag} {H : Hp} {v : V} : OddN H v → (∃ x, v = .str x) ∨ ∃ T, T ∈ TS1 ∧ TyX K H v (.type T)
  | .non => .inr ⟨_, by decide, .base .non⟩
  | .str x => .inl ⟨_, rfl⟩
  | .tup e => .inr ⟨_, by decide, .base (.tup e)⟩
  | .lst e _ => .inr ⟨_, by decide, .base (.lst e)⟩
  | .dK e => .inr ⟨_, by decide, .base (.dK e)⟩
theorem OddN.new {H : Hp} {v : V} {p : Addr} {o : HO} (n : H p = none) (h : OddN H v) : OddN (upd H p o) v := h.same fun b u e => by
  rw [upd_ne (ne_of_none e n)]; exact e
theorem OddN.two {H : Hp} {v : V} {a : Addr} {x y : V} {o : HO} (e : H a = some (.lst [x, y])) (h : OddN H v) : OddN (upd H a o) v := by
  cases h with
  | non => exact .non
  | str x => exact .str x
  | tup q => exact .tup (by rw [upd_ne (ne_of q e (by intro z; cases z))]; exact q)
  | lst q n => exact .lst (by rw [upd_ne (ne_of q e (by intro z; cases z; exact n rfl))]; exact q) n
  | dK q => exact .dK (by rw [upd_ne (ne_of q e (by intro z; cases z))]; exact q)
theorem tyof_same {K : PySem.W.Frag} {H H' : Hp} {y : V} {t : Value} (S : Same H H') (h : TyOf K H y t) : TyOf K H' y t := by
  cases h with
  | non => exact .non
  | bl x => exact .bl x
  | int x => exact .int x
  | str x => exact .str x
  | flt x => exact .flt x
  | lst e => exact .lst (S _ _ e)
  | frz e => exact .frz (S _ _ e)
  | tup e => exact .tup (S _ _ e)
  | dK e => exact .dK (S _ _ e)
  | dT e => exact .dT (S _ _ e)
  | ins e c a n k m => exact .ins (S _ _ e) c a n k m
theorem tyx_same {K : PySem.W.Frag} {H H' : Hp} {y : V} {t : Value} (S : Same H H') (h : TyX K H y t) : TyX K H' y t := by
  cases h with
  | base b => exact .base (tyof_same S b)
  | byt b => exact .byt b
  | set e => exact .set (S _ _ e)
  | kList e c => exact .kList e c
  | kTuple e c => exact .kTuple e c
  | kDict e c => exact .kDict e c
  | fTuple e => exact .fTuple (S _ _ e)
  | fDict e => exact .fDict (S _ _ e)
theorem kit_TS_int {K : PySem.W.Frag} : ∀ T ∈ TS0, PySem.W.kitOne K (.type T) (.type "int") = some false := by
  intro T h
  simp only [TS0, List.mem_cons, List.not_mem_nil, or_false] at h
  rcases h with rfl | rfl | rfl | rfl | rfl
  exact kit_none_int
  exact kit_str_int
  exact kit_tuple_int
  exact kit_list_int
  exact kit_dict_int
/-- .. or a truth -/
def OddV (H : Hp) (v : V) : Prop := OddN H v ∨ ∃ b, v = .bl b
theorem OddV.same {H H' : Hp} {v : V} (S : Same H H') (h : OddV H v) : OddV H' v := h.imp (·.same S) id
theorem dp_ss {K : PySem.W.Frag} {H : Hp} {p : Addr} {a b : Str} (h : SqL K H p [.str a, .str b]) : Dp K H (.ref p) (.list [.str a, .str b]) := .lst h (.cons (.str _) (.cons (.str _) .nil))
theorem shaped_ss {a b : Str} (ha : PyData.strOk a = true) (hb : PyData.strOk b = true) : SeqAt.shaped (.list [.str a, .str b]) = true := by
  simp only [PySem.SeqAt.shaped, PySem.PyData.canLay0, PySem.PyData.canLayAll0, PySem.PyData.depth, PySem.PyData.depthAll, ha, hb]; rfl
theorem OddV.sameR {H H' : Hp} {v : V} (h : OddV H v) (S : Same H H') : OddV H' v := h.same S
theorem eqv_ss (a b : Str) : PyData.eqv (.list [.str a, .str b]) (.list [.str a, .str b]) = true := by simp [PyData.eqv, PyData.eqvAll]
/-- of a list of anything one item: what all its items keep -/
theorem pickV (P : Hp → V → Prop) {K : PySem.W.Frag} {H : Hp} {a : Addr} {xs : List V} {d : Int} {Q : VK} (e : SqL K H a xs) (hm : ∀ v ∈ xs, P H v) (h0 : 0 ≤ d) (h1 : d < (xs.length : Int))
    (k : ∀ v, v ∈ xs → P H v → Q v H) : rIxL K (.ref a) (.int d) H Q := by
  obtain ⟨j, rfl⟩ : ∃ j : Nat, d = (j : Int) := ⟨d.toNat, by omega⟩
  have hj : j < xs.length := by omega
  exact ixL e (atI_nat (List.getElem?_eq_getElem hj)) (k _ (List.getElem_mem hj) (hm _ (List.getElem_mem hj)))
theorem catL {H : Hp} {l b : Addr} {xs zs : List V} {Q : VK} (h1 : H l = some (.lst xs)) (h2 : H b = some (.lst zs)) (n : xs.length + zs.length ≤ 1000) (k : ∀ p, H p = none → Q (.ref p) (upd H p (.lst (xs ++ zs)))) : rCat (.ref l) (.ref b) H Q :=
  ⟨l, b, xs, zs, rfl, rfl, h1, h2, Nat.le_of_lt (small1000 n), k⟩
/-- a loop over a list that is known whole, turn by turn -/
def unr (K : PySem.W.Frag) (a : Addr) (all : List V) (g : TG) (tb : TS) (D : Ends) : List V → L2.St → Hp → Prop
  | [], σ, H => D.nx σ H
  | x :: xs, σ, H => g x σ H fun σ2 H2 => tb { D with nx := fun σ' H' => SqL K H' a all ∧ unr K a all g tb D xs σ' H', ct := fun σ' H' => SqL K H' a all ∧ unr K a all g tb D xs σ' H', bk := D.nx } σ2 H2
theorem unroll {K : PySem.W.Frag} {a : Addr} {all : List V} {g : TG} {tb : TS} {D : Ends} {σ : L2.St} {H : Hp} (h0 : SqL K H a all) (h : unr K a all g tb D all σ H) :
    ∃ W : Nat → Nat → L2.St → Hp → Prop, (∃ m, W 0 m σ H) ∧ ∀ i m σ H, W i m σ H →
      ((Itl K a).stop i H ∧ D.nx σ H) ∨ ((Itl K a).go i H ∧ ∃ N : L2.St → Hp → Prop, (∀ σ' H', N σ' H' → ∃ m', m' < m ∧ W (i + 1) m' σ' H') ∧ ∀ x H', (Itl K a).yld i H x H' → g x σ H' fun σ2 H2 => tb { D with nx := N, ct := N, bk := D.nx } σ2 H2) := by
  refine for_list (xs := all) (fun i σ H => SqL K H a all ∧ unr K a all g tb D (all.drop i) σ H) ⟨h0, h⟩ (fun i σ H _ p => p.1) (fun i x σ H hx p => ?_) (fun σ H p => ?_)
  · have hi : i < all.length := (List.getElem?_eq_some_iff.mp hx).1
    have e : all.drop i = x :: all.drop (i + 1) := by rw [List.drop_eq_getElem_cons hi]; congr 1; exact (List.getElem?_eq_some_iff.mp hx).2
    have q := p.2
    rw [e] at q
    exact q
  · have q := p.2
    rw [List.drop_length] at q
    exact q
theorem unroll2 {K : PySem.W.Frag} {a : Addr} {all : List V} {g : TG} {tb : TS} {D : Ends} {σ : L2.St} {H : Hp} (h0 : SqL K H a all) (h : unr K a all g tb D all σ H) :
    (∃ xs, SqL K H a xs) ∧ ∃ W : Nat → Nat → L2.St → Hp → Prop, (∃ m, W 0 m σ H) ∧ ∀ i m σ H, W i m σ H →
      ((Itl K a).stop i H ∧ D.nx σ H) ∨ ((Itl K a).go i H ∧ ∃ N : L2.St → Hp → Prop, (∀ σ' H', N σ' H' → ∃ m', m' < m ∧ W (i + 1) m' σ' H') ∧ ∀ x H', (Itl K a).yld i H x H' → g x σ H' fun σ2 H2 => tb { D with nx := N, ct := N, bk := D.nx } σ2 H2) := ⟨⟨_, h0⟩, unroll h0 h⟩
theorem unrCons {K : PySem.W.Frag} {a : Addr} {all : List V} {g : TG} {tb : TS} {D : Ends} {x : V} {xs : List V} {σ : L2.St} {H : Hp}
    (h : g x σ H fun σ2 H2 => tb { D with nx := fun σ' H' => SqL K H' a all ∧ unr K a all g tb D xs σ' H', ct := fun σ' H' => SqL K H' a all ∧ unr K a all g tb D xs σ' H', bk := D.nx } σ2 H2) : unr K a all g tb D (x :: xs) σ H := h
theorem unrNil {K : PySem.W.Frag} {a : Addr} {all : List V} {g : TG} {tb : TS} {D : Ends} {σ : L2.St} {H : Hp} (h : D.nx σ H) : unr K a all g tb D [] σ H := h
/-- {k: v} of written values -/
theorem disp1 {σ : L2.St} {H : Hp} {Q : VK} {i : Int} {x : V} (h : ∀ p, H p = none → Q (.ref p) (upd H p (.dK [(.inl i, x)]))) : tDisp [(tC (.int i), tC x)] σ H Q :=
  fun p np => ⟨upd_same, [(.inl i, x)], rfl, Nat.le_of_ble_eq_true rfl, by rw [upd_upd]; exact h p np⟩
theorem newK {σ : L2.St} {H : Hp} {Q : VK} (h : ∀ p, H p = none → Q (.ref p) (upd H p (.dK []))) : tDNewK σ H Q := h
theorem ty_str {b : Str} : ∀ u, RelV (.str b) u → typeOf u = pure (.type "str") := by
  intro u r
  obtain ⟨t, q⟩ := (show ∃ t, u = Value.str b t from r)
  cases q
  rfl
theorem ty_bl {b : Bool} : ∀ u, RelV (.bl b) u → typeOf u = pure (.type "bool") := by
  intro u r
  cases (show u = Value.bool b from r)
  rfl
end Rd
/-! ## static methods, called by their class; a def's promise that is its own body; small helpers -/
namespace Sta
open PySem PySem.Spec PyProof.Rows L2
structure SMet (K : PySem.W.Frag) (C : Addr) (m : Str) (f : Addr) : Prop where
  rd : PySem.W.readsIn K C (.type "type") = true
  ga : PySem.W.specialIn K (.ref C) "__getattribute__" = some (some (.builtin "type.__getattribute__"))
  at_ : ∃ p rest, PySem.W.findCls K (.ref C) (.type "type") m = some (.get (.builtin "staticmethod.__get__") (.ref p) .none (.ref C)) ∧ PySem.W.recIn K p "staticmethod" = some (.ref f :: rest)
  kp : PySem.W.keepIn K (.ref f) = true
def tSMeth (C : Addr) (sp : Sp) (dvs : List V) (E : XK) (ta : TE) (t : TA) : TE := fun σ H Q => ta σ H fun x H1 => x = .ref C ∧ t σ H1 fun vs H2 => sp (vs ++ dvs) H2 Q E
section
variable {X : Cx} {CX : CXT} {k : Nat} {C f : Addr} {fd : FuncData} {ps : List Str} {ds : List Value} {dvs : List V} {sp : Sp} {E : XK} {o e : Expr} {es : List Expr} {m : Str} {pos apos : Pos} {ta : TE} {t : TA} {pl : Sem Bool}
theorem getmeth_sm {pins : List (Addr × Obj)} {σ : L2.St} {H : Hp} {s : Shared} {A : Around} {E' : Value → Shared → Prop} {Q : Value × List Value → Shared → Prop} (I : Inv X pins σ H s) (c : SMet X.K C m f)
    (h : ∀ s', Inv X pins σ H s' → Q (.ref f, []) s') : wpAny (model X.prog X.w) A (getMethod (.ref C) m pl) Q E' s := by
  obtain ⟨p, rest, a1, a2⟩ := c.at_
  exact PySem.W.method_cls I.kIn c.ga (PySem.W.cls_bind I.kIn c.rd a1 (wpAny_call (PySem.W.sm_get (s := { s with toks := s.toks + 1 }) I.kIn a2 (PySem.W.handed_on rfl (h _ (I.tok _))))))
theorem pe_smeth (he : PE X o ta) (c : SMet X.K C m f) (F : FnOk X.prog X.w X.K X.mg X.base CX k f fd ps sp) (hr : Room k X.A) (hb : Binds X.K fd ps ds) (hd : Vals dvs ds) (hx : Passes CX X E) (ha : PA X (e :: es) t)
    (hst : starEach (e :: es) X.env = (false, eval e X.env) :: starEach es X.env := by rfl) (hpl : (backTo pos (starEach es X.env)).any (·.1) = false := by rfl)
    (ht : eval (.Call (.Attribute o m apos) (e :: es) [] pos) X.env = (do
      let ov ← eval o X.env
      standAt apos.atName
      let (f, first) ← holding [ov] (getMethod ov m pl)
      callWith pos f first (backTo pos (starEach (e :: es) X.env)) (backToKw pos (keywordEach [] X.env))) := by rfl) :
    PE X (.Call (.Attribute o m apos) (e :: es) [] pos) (tSMeth C sp dvs E ta t) := by
  refine ⟨fun pins s σ H Q I h => ?_⟩
  refine PySem.W.methodCall_KW (pl := pl) (thn (he.run pins s σ H _ I h) fun u s1 ⟨x, H1, I1, rx, ex, q⟩ => ?_) ht
  subst ex
  obtain rfl : u = Value.ref C := rx
  refine getmeth_sm I1 c fun s2 I2 => ?_
  refine PySem.W.callWith_K (first := []) (h₀ := X.base) I2.ok.mod.kin c.kp (thn (ha.run pos pins s2 σ H1 _ I2 q) fun us s3 ⟨vs, H2, I3, r, q2⟩ => ⟨I3.kIn, ?_⟩) hst hpl
  exact run_fn (us := us) (vs := vs) F hr hb hd hx I3 r q2
theorem pe_smeth0 (he : PE X o ta) (c : SMet X.K C m f) (F : FnOk X.prog X.w X.K X.mg X.base CX k f fd ps sp) (hr : Room k X.A) (hb : Binds X.K fd ps ds) (hd : Vals dvs ds) (hx : Passes CX X E)
    (ht : eval (.Call (.Attribute o m apos) [] [] pos) X.env = (do
      let ov ← eval o X.env
      standAt apos.atName
      let (f, first) ← holding [ov] (getMethod ov m pl)
      callWith pos f first (backTo pos (starEach [] X.env)) (backToKw pos (keywordEach [] X.env))) := by rfl) :
    PE X (.Call (.Attribute o m apos) [] [] pos) (tSMeth C sp dvs E ta tNil) := by
  refine ⟨fun pins s σ H Q I h => ?_⟩
  refine PySem.W.methodCall_KW (pl := pl) (thn (he.run pins s σ H _ I h) fun u s1 ⟨x, H1, I1, rx, ex, q⟩ => ?_) ht
  subst ex
  obtain rfl : u = Value.ref C := rx
  refine getmeth_sm I1 c fun s2 I2 => ?_
  exact PySem.W.callWith_K0 (first := []) I2.kIn c.kp (run_fn (us := []) (vs := []) F hr hb hd hx I2 .nil q)
/-- a def that may raise, called where nothing may leave -/
theorem passF {X : Cx} : Passes (L2.CX X.prog X.w) X E0 := fun _ _ _ _ _ _ _ ⟨_, _, _, _, _, _, _, _, _, _, _, _, z⟩ => z.elim
end
end Sta
namespace Rd
open PySem PySem.Spec PyProof.Rows L2
section
variable {σ : L2.St} {H : Hp} {Q : VK} {D : Ends} {K : PySem.W.Frag}
theorem smeth {C : Addr} {sp : Sp} {dvs : List V} {E : XK} {ta : TE} {t : TA} (h : ta σ H fun x H1 => x = .ref C ∧ t σ H1 fun vs H2 => sp (vs ++ dvs) H2 Q E) : Sta.tSMeth C sp dvs E ta t σ H Q := h
theorem m0 {r : V → List V → Hp → VK → Prop} {to : TE} (h : to σ H fun x H1 => (∃ a, x = .str a) ∧ r x [] H1 Q) : tM0 r to σ H Q := h
theorem m1 {r : V → List V → Hp → VK → Prop} {to te : TE} (h : to σ H fun x H1 => (∃ a, x = .str a) ∧ te σ H1 fun y H2 => r x [y] H2 Q) : tM1 r to te σ H Q := h
theorem fmt {te : TE} (h : te σ H fun x H1 => (∃ y : Str, x = .str y ∧ y.length ≤ sizeLine ∧ Q (.str y) H1) ∨ ∃ i : Int, x = .int i ∧ i.natAbs.log2 < 1920 ∧ Q (.str (toString i)) H1) : tFmt te σ H Q := h
theorem chainP {r' : R2} {tc : TE} {y : V} {c d : Bool} (h1 : ∀ Q' : VK, Q' (.bl d) H → tc σ H fun w' H4 => r' y w' H4 Q') (h : Q (.bl (c && d)) H) : if c = true then tc σ H (fun w' H4 => r' y w' H4 Q) else Q (.bl false) H := by
  cases c with
  | true => exact h1 Q h
  | false => exact h
theorem peN {X : Cx} {e : Expr} : PE X e (fun _ _ _ => False) := ⟨fun _ _ _ _ _ _ z => z.elim⟩
theorem ptN {X : Cx} {e : Expr} : PT X e (fun _ _ _ => False) := ⟨fun _ _ _ _ _ _ z => z.elim⟩
theorem via {sp : Sp} {vs : List V} {E : XK} (Post : V → Hp → Prop) (h1 : ∀ Q' : VK, (∀ v H', Post v H' → Q' v H') → sp vs H Q' E) (h2 : ∀ v H', Post v H' → Q v H') : sp vs H Q E := h1 Q h2
end
end Rd
/-! ## counting truths in a list -/
namespace Cnt
open PySem PySem.Spec PyProof.Rows L2
theorem bools_of : ∀ {bs : List Bool} {us : List Value}, Vals (bs.map V.bl) us → us = bs.map Value.bool
  | [], _, .nil => rfl
  | b :: bs, _, .cons r rs => by
    have e1 := bools_of rs
    have e2 : _ = Value.bool b := r
    rw [e2, e1]
    rfl
def isB (k : Bool) : Value → Bool
  | .bool b => b == k
  | _ => false
theorem count_isB (k : Bool) : ∀ bs : List Bool, (bs.map Value.bool).countP (isB k) = bs.count k
  | [] => rfl
  | b :: bs => by
    rw [List.map_cons, List.countP_cons, count_isB k bs, List.count_cons]
    rfl
section
variable {X : Cx}
def rCntB (K : PySem.W.Frag) : V → List V → Hp → VK → Prop := fun x xs H Q => ∃ (p : Addr) (bs : List Bool) (k : Bool), x = .ref p ∧ xs = [.bl k] ∧ SqL K H p (bs.map V.bl) ∧ Q (.int (bs.count k : Nat)) H
theorem mt_countB : MtR X "list.count" (rCntB X.K) := by
  intro pins s σ H x xs vv us Q Inv0 rx rxs told
  obtain ⟨p, bs, k, rfl, rfl, sq, goal⟩ := told
  cases rx
  obtain ⟨u, rfl, ru⟩ := rxs.one
  have eu : u = Value.bool k := ru
  subst eu
  obtain ⟨its, rv, ⟨⟨c0, d0, dat0, sl0⟩, n, at0, ec, ed, edat⟩, len0⟩ := Inv0.list sq
  simp only at ec edat
  subst ec edat
  have es := bools_of rv
  refine call_meets PySem.F.slot_list_count ⟨_, at0, rfl⟩ PySem.F.entry_list_count (PySem.F.args_list_count_2 _ _)
    (SeqAt.list_countAt p its.toArray n d0 sl0 (.bool k) (isB k)) ⟨at0, fun y hy => ?_, ?_⟩
  · have hm : y ∈ bs.map Value.bool := by rw [← es]; simpa using hy
    obtain ⟨b, _, rfl⟩ := List.mem_map.mp hm
    exact SeqAt.EqAt.bool_bool b k
  · have en : its.toArray.toList.countP (isB k) = bs.count k := by
      show its.countP (isB k) = _
      rw [es]
      exact count_isB k bs
    refine ⟨.int (bs.count k : Nat), H, Inv0.tok _, ⟨s.toks, ?_⟩, goal⟩
    show Value.int ((its.toArray.toList.countP (isB k) : Nat) : Int) s.toks = _
    rw [en]
end
end Cnt
/-! ## comprehensions over written sources, item by item; ways joined behind an if -/
namespace Rd
open PySem PySem.Spec PyProof.Rows L2
/-- what is left of a comprehension, item by item; st says that the source stands -/
def Rem (D : Addr) (g : TG) (tt : TT) (te : TE) (vs : List Nat) (σ : L2.St) (st Q : Hp → Prop) : List V → Hp → Prop
  | [], H => st H ∧ Q H
  | x :: r, H => st H ∧ g x (wipe σ vs) H fun σ2 H2 => wipe σ2 vs = wipe σ vs ∧ tt σ2 H2 fun b H3 => if b = true then te σ2 H3 fun y H4 => ∃ acc, H4 D = some (.lst acc) ∧ acc.length < sizeLine ∧ Rem D g tt te vs σ st Q r (upd H4 D (.lst (acc ++ [y]))) else Rem D g tt te vs σ st Q r H3
section
variable {σ : L2.St} {H : Hp} {Q : VK} {K : PySem.W.Frag} {D : Addr} {g : TG} {tt : TT} {te : TE} {vs : List Nat} {st Qd : Hp → Prop}
theorem rem_st {l : List V} (h : Rem D g tt te vs σ st Qd l H) : st H := by cases l <;> exact h.1
theorem remCons {x : V} {r : List V} (h0 : st H) (h : g x (wipe σ vs) H fun σ2 H2 => wipe σ2 vs = wipe σ vs ∧ tt σ2 H2 fun b H3 => if b = true then te σ2 H3 fun y H4 => ∃ acc, H4 D = some (.lst acc) ∧ acc.length < sizeLine ∧ Rem D g tt te vs σ st Qd r (upd H4 D (.lst (acc ++ [y]))) else Rem D g tt te vs σ st Qd r H3) : Rem D g tt te vs σ st Qd (x :: r) H := ⟨h0, h⟩
theorem remNil (h0 : st H) (h : Qd H) : Rem D g tt te vs σ st Qd [] H := ⟨h0, h⟩
theorem drop_at {l : List V} {i : Nat} {x : V} (h : l[i]? = some x) : l.drop i = x :: l.drop (i + 1) := by
  obtain ⟨hi, e⟩ := List.getElem?_eq_some_iff.mp h
  rw [List.drop_eq_getElem_cons hi, e]
/-- over a written list -/
theorem lcUnrL {Qa : Addr → Hp → Prop} {a : Addr} {xs : List V} (hs : SqL K H a xs) (h : ∀ D, H D = none → Rem D g tt te vs σ (fun H' => SqL K H' a xs) (fun H' => Qa D H') xs (upd H D (.lst []))) :
    (∃ xs, SqL K H a xs) ∧ ∀ D, H D = none → ∃ W : Nat → Nat → Hp → Prop, (∃ m, W 0 m (upd H D (.lst []))) ∧ ∀ t m H, W t m H →
      ((Itl K a).stop t H ∧ Qa D H) ∨ ((Itl K a).go t H ∧ ∃ Nx : Hp → Prop, (∀ H', Nx H' → ∃ m', m' < m ∧ W (t + 1) m' H') ∧ ∀ x H', (Itl K a).yld t H x H' → g x (wipe σ vs) H' fun σ2 H2 => wipe σ2 vs = wipe σ vs ∧ tt σ2 H2 fun b H3 =>
        if b = true then te σ2 H3 fun y H4 => ∃ acc, H4 D = some (.lst acc) ∧ acc.length < sizeLine ∧ Nx (upd H4 D (.lst (acc ++ [y]))) else Nx H3) :=
  ⟨⟨_, hs⟩, fun D hD => lc_list (xs := xs) (fun i H' => Rem D g tt te vs σ (fun H' => SqL K H' a xs) (fun H' => Qa D H') (xs.drop i) H') (h D hD) (fun _ _ _ p => rem_st p) (fun i x H' hx p => by rw [drop_at hx] at p; exact p.2) fun H' p => by
    rw [List.drop_length] at p
    exact p.2⟩
/-- over a written tuple -/
theorem lcUnrT {Qa : Addr → Hp → Prop} {a : Addr} {xs : List V} (hs : SqT K H a xs) (h : ∀ D, H D = none → Rem D g tt te vs σ (fun H' => SqT K H' a xs) (fun H' => Qa D H') xs (upd H D (.lst []))) :
    (∃ xs, SqT K H a xs) ∧ ∀ D, H D = none → ∃ W : Nat → Nat → Hp → Prop, (∃ m, W 0 m (upd H D (.lst []))) ∧ ∀ t m H, W t m H →
      ((Itt K a).stop t H ∧ Qa D H) ∨ ((Itt K a).go t H ∧ ∃ Nx : Hp → Prop, (∀ H', Nx H' → ∃ m', m' < m ∧ W (t + 1) m' H') ∧ ∀ x H', (Itt K a).yld t H x H' → g x (wipe σ vs) H' fun σ2 H2 => wipe σ2 vs = wipe σ vs ∧ tt σ2 H2 fun b H3 =>
        if b = true then te σ2 H3 fun y H4 => ∃ acc, H4 D = some (.lst acc) ∧ acc.length < sizeLine ∧ Nx (upd H4 D (.lst (acc ++ [y]))) else Nx H3) :=
  ⟨⟨_, hs⟩, fun D hD => lc_tup (xs := xs) (fun i H' => Rem D g tt te vs σ (fun H' => SqT K H' a xs) (fun H' => Qa D H') (xs.drop i) H') (h D hD) (fun _ _ _ p => rem_st p) (fun i x H' hx p => by rw [drop_at hx] at p; exact p.2) fun H' p => by
    rw [List.drop_length] at p
    exact p.2⟩
/-- the ints of a range -/
def rgV (lo : Int) : Nat → List V
  | 0 => []
  | n + 1 => .int lo :: rgV (lo + 1) n
theorem rgV_at : ∀ (n : Nat) (lo : Int) (i : Nat), i < n → (rgV lo n)[i]? = some (.int (lo + i))
  | n + 1, lo, 0, _ => by simp [rgV]
  | n + 1, lo, i + 1, h => by
    show (rgV (lo + 1) n)[i]? = _
    rw [rgV_at n (lo + 1) i (by omega)]
    congr 2
    omega
theorem rgV_len : ∀ (n : Nat) (lo : Int), (rgV lo n).length = n
  | 0, _ => rfl
  | n + 1, lo => by show (rgV (lo + 1) n).length + 1 = _; rw [rgV_len n]
theorem lcUnrR {Qa : Addr → Hp → Prop} {lo : Int} {n : Nat} (h : ∀ D, H D = none → Rem D g tt te vs σ (fun _ => True) (fun H' => Qa D H') (rgV lo n) (upd H D (.lst []))) :
    ∀ D, H D = none → ∃ W : Nat → Nat → Hp → Prop, (∃ m, W 0 m (upd H D (.lst []))) ∧ ∀ t m H, W t m H →
      ((Itr lo n).stop t H ∧ Qa D H) ∨ ((Itr lo n).go t H ∧ ∃ Nx : Hp → Prop, (∀ H', Nx H' → ∃ m', m' < m ∧ W (t + 1) m' H') ∧ ∀ x H', (Itr lo n).yld t H x H' → g x (wipe σ vs) H' fun σ2 H2 => wipe σ2 vs = wipe σ vs ∧ tt σ2 H2 fun b H3 =>
        if b = true then te σ2 H3 fun y H4 => ∃ acc, H4 D = some (.lst acc) ∧ acc.length < sizeLine ∧ Nx (upd H4 D (.lst (acc ++ [y]))) else Nx H3) :=
  fun D hD => lc_range (lo := lo) (n := n) (fun i H' => Rem D g tt te vs σ (fun _ => True) (fun H' => Qa D H') ((rgV lo n).drop i) H') (h D hD) (fun i H' hi p => by rw [drop_at (rgV_at n lo i hi)] at p; exact p.2) fun H' p => by
    rw [List.drop_of_length_le (by rw [rgV_len]; exact Nat.le_refl _)] at p
    exact p.2
theorem yes {q : Bool → Hp → Prop} (h : q true H) : tYes σ H q := h
/-- two ways of an if that meet -/
theorem ifJ {D : Ends} {c : TT} {t u : TS} (J : L2.St → Hp → Prop) (h1 : (∀ σ' H', J σ' H' → D.nx σ' H') → tIfS c t u D σ H) (h2 : ∀ σ' H', J σ' H' → D.nx σ' H') : tIfS c t u D σ H := h1 h2
/-- a heap known by facts alone, from here on -/
theorem comp {t : TS} {D : Ends} (P : Hp → Prop) (h0 : P H) (h : ∀ H', P H' → t D σ H') : t D σ H := h H h0
theorem truB {b : Bool} (e : b = true) (h : Q (.bl true) H) : Q (.bl b) H := by rw [e]; exact h
theorem cnt3 {p : Addr} {x y z k : Bool} (e : SqL K H p [.bl x, .bl y, .bl z]) (h : Q (.int (([x, y, z].count k : Nat) : Int)) H) : Cnt.rCntB K (.ref p) [.bl k] H Q := ⟨p, [x, y, z], k, rfl, rfl, e, h⟩
theorem feqF {a b c d : Int} (h1 : a = b) (h2 : c = d) : (!(decide (V.int a = V.int b) && decide (V.int c = V.int d))) = false := by
  rw [h1, h2, decide_eq_true rfl, decide_eq_true rfl]; rfl
theorem feqT {a b c d : Int} (h1 : a = b) (h2 : c = d) : (decide (V.int a = V.int b) && decide (V.int c = V.int d)) = true := by
  rw [h1, h2, decide_eq_true rfl, decide_eq_true rfl]; rfl
theorem neB {x y : Bool} (h : x = y) : (!decide (V.bl x = V.bl y)) = false := by rw [h, decide_eq_true rfl]; rfl
theorem tri (a b c d : Int) : (!decide (V.int (([decide (a < c ∨ a = c ∧ b < d), (decide (V.int a = V.int c) && decide (V.int b = V.int d)), decide (c < a ∨ c = a ∧ d < b)].count true : Nat) : Int) = V.int 1)) = false := by
  have e1 : decide (V.int a = V.int c) = decide (a = c) := by simp only [V.int.injEq]
  have e2 : decide (V.int b = V.int d) = decide (b = d) := by simp only [V.int.injEq]
  rw [e1, e2]
  rcases (by omega : a < c ∨ c < a ∨ (a = c ∧ b < d) ∨ (a = c ∧ d < b) ∨ (a = c ∧ b = d)) with h | h | ⟨h, g⟩ | ⟨h, g⟩ | ⟨h, g⟩
  · rw [decide_eq_true (show a < c ∨ a = c ∧ b < d by omega), decide_eq_false (show ¬ a = c by omega), decide_eq_false (show ¬ (c < a ∨ c = a ∧ d < b) by omega)]; rfl
  · rw [decide_eq_false (show ¬ (a < c ∨ a = c ∧ b < d) by omega), decide_eq_false (show ¬ a = c by omega), decide_eq_true (show (c < a ∨ c = a ∧ d < b) by omega)]; rfl
  · rw [decide_eq_true (show a < c ∨ a = c ∧ b < d by omega), decide_eq_false (show ¬ b = d by omega), Bool.and_false, decide_eq_false (show ¬ (c < a ∨ c = a ∧ d < b) by omega)]; rfl
  · rw [decide_eq_false (show ¬ (a < c ∨ a = c ∧ b < d) by omega), decide_eq_false (show ¬ b = d by omega), Bool.and_false, decide_eq_true (show (c < a ∨ c = a ∧ d < b) by omega)]; rfl
  · rw [decide_eq_false (show ¬ (a < c ∨ a = c ∧ b < d) by omega), decide_eq_true h, decide_eq_true g, decide_eq_false (show ¬ (c < a ∨ c = a ∧ d < b) by omega)]; rfl
theorem stepLt {a b c d t : Int} (h : 0 < t) : decide (a * t < c * t ∨ a * t = c * t ∧ b * t < d * t) = decide (a < c ∨ a = c ∧ b < d) := by
  have m1 : a * t < c * t ↔ a < c := Int.mul_lt_mul_right h
  have m2 : b * t < d * t ↔ b < d := Int.mul_lt_mul_right h
  have m3 : a * t = c * t ↔ a = c := ⟨fun e => Int.eq_of_mul_eq_mul_right (by omega) e, fun e => by rw [e]⟩
  rw [decide_eq_decide, m1, m2, m3]
theorem stepGt {a b c d t : Int} (h : 0 < t) : decide (a * (0 - t) < c * (0 - t) ∨ a * (0 - t) = c * (0 - t) ∧ b * (0 - t) < d * (0 - t)) = decide (c < a ∨ c = a ∧ d < b) := by
  have n : ∀ x : Int, x * (0 - t) = -(x * t) := fun x => by rw [Int.zero_sub, Int.mul_neg]
  have m1 : a * (0 - t) < c * (0 - t) ↔ c < a := by rw [n, n, Int.neg_lt_neg_iff]; exact Int.mul_lt_mul_right h
  have m2 : b * (0 - t) < d * (0 - t) ↔ d < b := by rw [n, n, Int.neg_lt_neg_iff]; exact Int.mul_lt_mul_right h
  have m3 : a * (0 - t) = c * (0 - t) ↔ c = a := ⟨fun e => (Int.eq_of_mul_eq_mul_right (by omega) e).symm, fun e => by rw [e]⟩
  rw [decide_eq_decide, m1, m2, m3]
end
end Rd
/-! ## schemes: words, dicts, written tuples, calls by keywords -/
namespace Rd
open PySem PySem.Spec PyProof.Rows L2
section
variable {σ : L2.St} {H : Hp} {Q : VK} {D : Ends} {K : PySem.W.Frag}
theorem mkK {C : Addr} {m : Nat} {sp : Sp} {gV : List V → List V → List V} {E : XK} {tk : TA} (h : tk σ H fun zs H2 => ([] : List V).length = 0 ∧ zs.length = m ∧ ∀ x dx, H2 x = none → H2 dx = none → dx ≠ x →
    sp (gV (.ref x :: []) zs) (upd (upd H2 dx (.own x)) x (.ins C dx [])) (fun v H3 => v = .non ∧ Q (.ref x) H3) E) : tMakeK C 0 m sp gV E tNil tk σ H Q := h
theorem dget {td ty : TE} (h : td σ H fun x H1 => ty σ H1 fun y H2 => ∃ a v, x = .ref a ∧ DGet H2 a y (some v) ∧ Q v H2) : tDGet td ty σ H Q := h
theorem dget2 {a : Addr} {kvs : List (Key × V)} {z : Str} {v : V} {R : V → Prop} (e : H a = some (.dK kvs)) (l : valV kvs (.inr z) = some v) (h : R v) : ∃ a' v, V.ref a = .ref a' ∧ DGet H a' (.str z) (some v) ∧ R v :=
  ⟨a, v, rfl, by have := DGet.k (k := Sum.inr z) e; rw [l] at this; exact this, h⟩
/-- a written tuple, whatever the heap -/
def SqTK (K : PySem.W.Frag) (a : Addr) (xs : List V) : Prop := ∀ H, SqT K H a xs
theorem SqTK.get {a : Addr} {xs : List V} (h : SqTK K a xs) : SqT K H a xs := h H
theorem inW {s : Str} {ws : List Str} (h : s ∈ ws) : inV (.str s) (ws.map V.str) = true := by
  unfold inV
  rw [List.any_eq_true]
  exact ⟨.str s, List.mem_map.mpr ⟨s, h, rfl⟩, by simp [eqV]⟩
theorem pickAny {a : Addr} {xs : List V} {d : Int} (e : SqL K H a xs) (h0 : 0 ≤ d) (h1 : d < (xs.length : Int)) (k : ∀ v, v ∈ xs → Q v H) : rIxL K (.ref a) (.int d) H Q := by
  obtain ⟨j, rfl⟩ : ∃ j : Nat, d = (j : Int) := ⟨d.toNat, by omega⟩
  have hj : j < xs.length := by omega
  exact ixL e (atI_nat (List.getElem?_eq_getElem hj)) (k _ (List.getElem_mem hj))
theorem bits {to : TE} (h : to σ H fun x H1 => ∃ i, x = .int i ∧ Q (.int (Builtin.Int.intBits i : Nat)) H1) : tBits to σ H Q := h
theorem tru {ta : TE} {q : Bool → Hp → Prop} (h : ta σ H fun x H' => ∃ k, TruV K x H' k ∧ q k H') : (fun σ H Q => ta σ H fun x H' => ∃ k, TruV K x H' k ∧ Q k H' : TT) σ H q := h
theorem truI {i : Int} : TruV K (.int i) H (i != 0) := rfl
theorem rng2 {ta : TA} {R : It → Hp → Prop} (h : ta σ H fun vs H1 => ∃ i j : Int, vs = [.int i, .int j] ∧ (-(2 ^ 62) ≤ i ∧ i < 2 ^ 62 ∧ -(2 ^ 62) ≤ j ∧ j < 2 ^ 62) ∧ R (Itr i (j - i).toNat) H1) : iRng2 ta σ H R := h
theorem notF {b : Bool} (h : b = true) : (!b) = false := by rw [h]; rfl
theorem inT {p : Addr} {x : V} {xs : List V} (e : SqL K H p xs ∨ SqT K H p xs) (f1 : flatV x = true) (f2 : xs.all flatV = true) (h : Q (.bl (inV x xs)) H) : rIn K false x (.ref p) H Q := ⟨p, xs, rfl, e, f1, f2, h⟩
theorem kt_int_int {K : PySem.W.Frag} : PySem.W.kitOne K (.type "int") (.type "int") = some true := kit_ty (by decide +kernel)
theorem kt_int_bool {K : PySem.W.Frag} : PySem.W.kitOne K (.type "int") (.type "bool") = some false := kit_ty (by decide +kernel)
theorem kt_int_str {K : PySem.W.Frag} : PySem.W.kitOne K (.type "int") (.type "str") = some false := kit_ty (by decide +kernel)
theorem kt_int_tuple {K : PySem.W.Frag} : PySem.W.kitOne K (.type "int") (.type "tuple") = some false := kit_ty (by decide +kernel)
theorem kt_int_list {K : PySem.W.Frag} : PySem.W.kitOne K (.type "int") (.type "list") = some false := kit_ty (by decide +kernel)
theorem kt_int_dict {K : PySem.W.Frag} : PySem.W.kitOne K (.type "int") (.type "dict") = some false := kit_ty (by decide +kernel)
theorem kt_bool_int {K : PySem.W.Frag} : PySem.W.kitOne K (.type "bool") (.type "int") = some true := kit_ty (by decide +kernel)
theorem kt_bool_bool {K : PySem.W.Frag} : PySem.W.kitOne K (.type "bool") (.type "bool") = some true := kit_ty (by decide +kernel)
theorem kt_bool_str {K : PySem.W.Frag} : PySem.W.kitOne K (.type "bool") (.type "str") = some false := kit_ty (by decide +kernel)
theorem kt_bool_tuple {K : PySem.W.Frag} : PySem.W.kitOne K (.type "bool") (.type "tuple") = some false := kit_ty (by decide +kernel)
theorem kt_bool_list {K : PySem.W.Frag} : PySem.W.kitOne K (.type "bool") (.type "list") = some false := kit_ty (by decide +kernel)
theorem kt_bool_dict {K : PySem.W.Frag} : PySem.W.kitOne K (.type "bool") (.type "dict") = some false := kit_ty (by decide +kernel)
theorem kt_str_int {K : PySem.W.Frag} : PySem.W.kitOne K (.type "str") (.type "int") = some false := kit_ty (by decide +kernel)
theorem kt_str_bool {K : PySem.W.Frag} : PySem.W.kitOne K (.type "str") (.type "bool") = some false := kit_ty (by decide +kernel)
theorem kt_str_str {K : PySem.W.Frag} : PySem.W.kitOne K (.type "str") (.type "str") = some true := kit_ty (by decide +kernel)
theorem kt_str_tuple {K : PySem.W.Frag} : PySem.W.kitOne K (.type "str") (.type "tuple") = some false := kit_ty (by decide +kernel)
theorem kt_str_list {K : PySem.W.Frag} : PySem.W.kitOne K (.type "str") (.type "list") = some false := kit_ty (by decide +kernel)
theorem kt_str_dict {K : PySem.W.Frag} : PySem.W.kitOne K (.type "str") (.type "dict") = some false := kit_ty (by decide +kernel)
theorem kt_NoneType_int {K : PySem.W.Frag} : PySem.W.kitOne K (.type "NoneType") (.type "int") = some false := kit_ty (by decide +kernel)
theorem kt_NoneType_bool {K : PySem.W.Frag} : PySem.W.kitOne K (.type "NoneType") (.type "bool") = some false := kit_ty (by decide +kernel)
theorem kt_NoneType_str {K : PySem.W.Frag} : PySem.W.kitOne K (.type "NoneType") (.type "str") = some false := kit_ty (by decide +kernel)
theorem kt_NoneType_tuple {K : PySem.W.Frag} : PySem.W.kitOne K (.type "NoneType") (.type "tuple") = some false := kit_ty (by decide +kernel)
theorem kt_NoneType_list {K : PySem.W.Frag} : PySem.W.kitOne K (.type "NoneType") (.type "list") = some false := kit_ty (by decide +kernel)
theorem kt_NoneType_dict {K : PySem.W.Frag} : PySem.W.kitOne K (.type "NoneType") (.type "dict") = some false := kit_ty (by decide +kernel)
theorem kt_tuple_int {K : PySem.W.Frag} : PySem.W.kitOne K (.type "tuple") (.type "int") = some false := kit_ty (by decide +kernel)
theorem kt_tuple_bool {K : PySem.W.Frag} : PySem.W.kitOne K (.type "tuple") (.type "bool") = some false := kit_ty (by decide +kernel)
theorem kt_tuple_str {K : PySem.W.Frag} : PySem.W.kitOne K (.type "tuple") (.type "str") = some false := kit_ty (by decide +kernel)
theorem kt_tuple_tuple {K : PySem.W.Frag} : PySem.W.kitOne K (.type "tuple") (.type "tuple") = some true := kit_ty (by decide +kernel)
theorem kt_tuple_list {K : PySem.W.Frag} : PySem.W.kitOne K (.type "tuple") (.type "list") = some false := kit_ty (by decide +kernel)
theorem kt_tuple_dict {K : PySem.W.Frag} : PySem.W.kitOne K (.type "tuple") (.type "dict") = some false := kit_ty (by decide +kernel)
theorem kt_list_int {K : PySem.W.Frag} : PySem.W.kitOne K (.type "list") (.type "int") = some false := kit_ty (by decide +kernel)
theorem kt_list_bool {K : PySem.W.Frag} : PySem.W.kitOne K (.type "list") (.type "bool") = some false := kit_ty (by decide +kernel)
theorem kt_list_str {K : PySem.W.Frag} : PySem.W.kitOne K (.type "list") (.type "str") = some false := kit_ty (by decide +kernel)
theorem kt_list_tuple {K : PySem.W.Frag} : PySem.W.kitOne K (.type "list") (.type "tuple") = some false := kit_ty (by decide +kernel)
theorem kt_list_list {K : PySem.W.Frag} : PySem.W.kitOne K (.type "list") (.type "list") = some true := kit_ty (by decide +kernel)
theorem kt_list_dict {K : PySem.W.Frag} : PySem.W.kitOne K (.type "list") (.type "dict") = some false := kit_ty (by decide +kernel)
theorem kt_dict_int {K : PySem.W.Frag} : PySem.W.kitOne K (.type "dict") (.type "int") = some false := kit_ty (by decide +kernel)
theorem kt_dict_bool {K : PySem.W.Frag} : PySem.W.kitOne K (.type "dict") (.type "bool") = some false := kit_ty (by decide +kernel)
theorem kt_dict_str {K : PySem.W.Frag} : PySem.W.kitOne K (.type "dict") (.type "str") = some false := kit_ty (by decide +kernel)
theorem kt_dict_tuple {K : PySem.W.Frag} : PySem.W.kitOne K (.type "dict") (.type "tuple") = some false := kit_ty (by decide +kernel)
theorem kt_dict_list {K : PySem.W.Frag} : PySem.W.kitOne K (.type "dict") (.type "list") = some false := kit_ty (by decide +kernel)
theorem kt_dict_dict {K : PySem.W.Frag} : PySem.W.kitOne K (.type "dict") (.type "dict") = some true := kit_ty (by decide +kernel)
theorem inW_iff {s : Str} {ws : List Str} : inV (.str s) (ws.map V.str) = decide (s ∈ ws) := by
  by_cases h : s ∈ ws
  · rw [inW h, decide_eq_true h]
  · rw [decide_eq_false h, Bool.eq_false_iff]
    intro e
    unfold inV at e
    rw [List.any_eq_true] at e
    obtain ⟨x, hx, e⟩ := e
    obtain ⟨t, ht, rfl⟩ := List.mem_map.mp hx
    have : t = s := by simpa [eqV] using e
    exact h (this ▸ ht)
theorem flatW (ws : List Str) : (ws.map V.str).all flatV = true := by
  rw [List.all_eq_true]
  intro x hx
  obtain ⟨t, _, rfl⟩ := List.mem_map.mp hx
  rfl
/-- a loop over a tuple that is known whole, turn by turn -/
def unrT (K : PySem.W.Frag) (a : Addr) (all : List V) (g : TG) (tb : TS) (D : Ends) : List V → L2.St → Hp → Prop
  | [], σ, H => D.nx σ H
  | x :: xs, σ, H => g x σ H fun σ2 H2 => tb { D with nx := fun σ' H' => SqT K H' a all ∧ unrT K a all g tb D xs σ' H', ct := fun σ' H' => SqT K H' a all ∧ unrT K a all g tb D xs σ' H', bk := D.nx } σ2 H2
theorem unrollT {a : Addr} {all : List V} {g : TG} {tb : TS} (h0 : SqT K H a all) (h : unrT K a all g tb D all σ H) :
    (∃ xs, SqT K H a xs) ∧ ∃ W : Nat → Nat → L2.St → Hp → Prop, (∃ m, W 0 m σ H) ∧ ∀ i m σ H, W i m σ H →
      ((Itt K a).stop i H ∧ D.nx σ H) ∨ ((Itt K a).go i H ∧ ∃ N : L2.St → Hp → Prop, (∀ σ' H', N σ' H' → ∃ m', m' < m ∧ W (i + 1) m' σ' H') ∧ ∀ x H', (Itt K a).yld i H x H' → g x σ H' fun σ2 H2 => tb { D with nx := N, ct := N, bk := D.nx } σ2 H2) := by
  refine ⟨⟨_, h0⟩, for_tup (xs := all) (fun i σ H => SqT K H a all ∧ unrT K a all g tb D (all.drop i) σ H) ⟨h0, h⟩ (fun i σ H _ p => p.1) (fun i x σ H hx p => ?_) (fun σ H p => ?_)⟩
  · have q := p.2
    rw [drop_at hx] at q
    exact q
  · have q := p.2
    rw [List.drop_length] at q
    exact q
theorem unrTCons {a : Addr} {all : List V} {g : TG} {tb : TS} {x : V} {xs : List V}
    (h : g x σ H fun σ2 H2 => tb { D with nx := fun σ' H' => SqT K H' a all ∧ unrT K a all g tb D xs σ' H', ct := fun σ' H' => SqT K H' a all ∧ unrT K a all g tb D xs σ' H', bk := D.nx } σ2 H2) : unrT K a all g tb D (x :: xs) σ H := h
theorem unrTNil {a : Addr} {all : List V} {g : TG} {tb : TS} (h : D.nx σ H) : unrT K a all g tb D [] σ H := h
/-- five written texts as keys -/
theorem disp5 {t1 t2 t3 t4 t5 : TE} {v1 v2 v3 v4 v5 : V} {k1 k2 k3 k4 k5 : Str} (h1 : ∀ H (R : VK), R v1 H → t1 σ H R) (h2 : ∀ H (R : VK), R v2 H → t2 σ H R) (h3 : ∀ H (R : VK), R v3 H → t3 σ H R) (h4 : ∀ H (R : VK), R v4 H → t4 σ H R) (h5 : ∀ H (R : VK), R v5 H → t5 σ H R)
    (h : ∀ p, H p = none → Q (.ref p) (upd H p (.dK (mergeK [] [(.inr k1, v1), (.inr k2, v2), (.inr k3, v3), (.inr k4, v4), (.inr k5, v5)])))) : tDisp [(tC (.str k1), t1), (tC (.str k2), t2), (tC (.str k3), t3), (tC (.str k4), t4), (tC (.str k5), t5)] σ H Q := by
  intro p np
  refine h1 _ _ (h2 _ _ (h3 _ _ (h4 _ _ (h5 _ _ ?_))))
  refine ⟨upd_same, [(.inr k1, v1), (.inr k2, v2), (.inr k3, v3), (.inr k4, v4), (.inr k5, v5)], rfl, Nat.le_of_ble_eq_true rfl, ?_⟩
  rw [upd_upd]
  exact h p np
theorem ixTK {X : Cx} {K : PySem.W.Frag} (e : X.K = K) : IxR X (rIxT K) := e ▸ ix_tup
theorem ixLK {X : Cx} {K : PySem.W.Frag} (e : X.K = K) : IxR X (rIxL K) := e ▸ ix_list
theorem tp0 {R : List (V × V) → Hp → Prop} (h : R [] H) : tPairs [] σ H R := h
theorem tp1 {tk tv : TE} {r : List (TE × TE)} {R : List (V × V) → Hp → Prop} (h : tk σ H fun x H1 => tv σ H1 fun y H2 => tPairs r σ H2 fun ps H3 => R ((x, y) :: ps) H3) : tPairs ((tk, tv) :: r) σ H R := h
theorem callS {sp : Sp} {E : L2.St → XK} {t : TA} (h : t σ H fun vs H1 => sp vs H1 Q (E σ)) : tCallS sp E t σ H Q := h
end
end Rd
/-! ## several handlers; a drawn item of a written tuple -/
namespace Rd
open PySem PySem.Spec PyProof.Rows L2
theorem wmT {K : PySem.W.Frag} {Wout : WX} {D : Ends} {c : Value} {ts : Addr → Value → Option Addr → TS} {r : List (Value × (Addr → Value → Option Addr → TS))} {cls : Value} {d : Option Addr} {σ : L2.St} {H : Hp}
    (e : PySem.W.exmOne K cls c = some true) (h : ∀ a, H a = none → ts a cls d D σ H) : wMany K Wout D ((c, ts) :: r) cls d σ H := ⟨true, e, fun _ => h, fun q => Bool.noConfusion q⟩
theorem wmF {K : PySem.W.Frag} {Wout : WX} {D : Ends} {c : Value} {ts : Addr → Value → Option Addr → TS} {r : List (Value × (Addr → Value → Option Addr → TS))} {cls : Value} {d : Option Addr} {σ : L2.St} {H : Hp}
    (e : PySem.W.exmOne K cls c = some false) (h : wMany K Wout D r cls d σ H) : wMany K Wout D ((c, ts) :: r) cls d σ H := ⟨false, e, fun q => Bool.noConfusion q, fun _ => h⟩
theorem pickT (P : V → Prop) {K : PySem.W.Frag} {H : Hp} {a : Addr} {xs : List V} {d : Int} {Q : VK} (e : SqT K H a xs) (hm : ∀ v ∈ xs, P v) (h0 : 0 ≤ d) (h1 : d < (xs.length : Int))
    (k : ∀ v, P v → Q v H) : rIxT K (.ref a) (.int d) H Q := by
  obtain ⟨j, rfl⟩ : ∃ j : Nat, d = (j : Int) := ⟨d.toNat, by omega⟩
  have hj : j < xs.length := by omega
  exact ixT e (atI_nat (List.getElem?_eq_getElem hj)) (k _ (hm _ (List.getElem_mem hj)))
theorem pickTH (P : Hp → V → Prop) {K : PySem.W.Frag} {H : Hp} {a : Addr} {xs : List V} {d : Int} {Q : VK} (e : SqT K H a xs) (hm : ∀ v ∈ xs, P H v) (h0 : 0 ≤ d) (h1 : d < (xs.length : Int))
    (k : ∀ v, P H v → Q v H) : rIxT K (.ref a) (.int d) H Q := pickT (P H) e hm h0 h1 k
/-- with what the place says -/
theorem pickTd (P : V → Prop) {K : PySem.W.Frag} {H : Hp} {a : Addr} {xs : List V} {d : Int} {Q : VK} (e : SqT K H a xs) (h0 : 0 ≤ d) (h1 : d < (xs.length : Int)) (hm : ∀ (j : Nat) (v : V), xs[j]? = some v → d = (j : Int) → P v)
    (k : ∀ v, P v → Q v H) : rIxT K (.ref a) (.int d) H Q := by
  obtain ⟨j, rfl⟩ : ∃ j : Nat, d = (j : Int) := ⟨d.toNat, by omega⟩
  have hj : j < xs.length := by omega
  exact ixT e (atI_nat (List.getElem?_eq_getElem hj)) (k _ (hm j _ (List.getElem?_eq_getElem hj) rfl))
end Rd
/-! ## bool(o) by the own __bool__ (as in dq.lean) -/
namespace Own
open PySem PySem.Spec PyProof.Rows L2
section
variable {X : Cx} {CX : CXT} {k : Nat} {f f0 C : Addr} {fd : FuncData} {ps : List Str} {sp : Sp} {E : XK} {op : Operator}
theorem runIn2 {pins : List (Addr × Obj)} {σ : L2.St} {H : Hp} {s : Shared} {Q : VK} {us : List Value} {vs : List V} (F : FnOk X.prog X.w X.K X.mg X.base CX k f fd ps sp) (hr : Room (k + 2) X.A) (hb : Binds X.K fd ps []) (hx : Passes CX X E)
    (I : Inv X pins σ H s) (r : Vals vs us) (h : sp vs H Q E) : wpAny (model X.prog X.w) X.A.in1.in1 (PySem.call (.ref f) us) (EP X pins σ Q) X.xe s := by
  have hl : us.length = ps.length := by rw [← r.length]; exact F.len _ _ _ _ h
  have hb' := hb s us I.kIn (by simpa using hl)
  rw [List.append_nil] at hb'
  refine wpAny_call (codeAny_mono (F.run X.A.in1.in1 X.stack s H ⟨us, []⟩ us vs Q E hr.in1.in1 I.env0.in1.in1 hb' r h) fun r s' hq => ?_)
  cases r with
  | error e => exact hx pins σ H s e s' I hq
  | ok fl =>
    cases fl with
    | ret u => exact I.after hq
    | next => exact False.elim hq
    | brk => exact False.elim hq
    | cont => exact False.elim hq
theorem boolOwn (F : FnOk X.prog X.w X.K X.mg X.base CX k f fd ps sp) (hr : Room (k + 2) X.A) (B : Sp1 X.K C "__bool__" f) (hb : Binds X.K fd ps []) (hx : Passes CX X E) :
    CallR X (.type "bool") (fun xs H Q => ∃ a dx fs, xs = [.ref a] ∧ H a = some (.ins C dx fs) ∧ sp [.ref a] H (fun v H' => ∃ b, v = .bl b ∧ Q (.bl b) H') E) := by
  rintro pins s σ H xs us Q I rs ⟨a, dx, fs, rfl, ha, q⟩
  cases rs with
  | cons r rest =>
    cases rest
    cases r
    obtain ⟨od, J⟩ := inst I ha
    obtain ⟨m, hF⟩ := I.fr
    have tr : wpAny (model X.prog X.w) X.A.in1.in1 (truthy (.ref a)) (fun b s' => EP X pins σ Q (.bool b) s') X.xe s :=
      PySem.W.truthy_K hF I.ok.mod.kin J B.at_ B.fn (wpAny_mono (runIn2 (us := [.ref a]) (vs := [.ref a]) F hr hb hx I (.cons rfl .nil) q) (fun r s' hq => by
        obtain ⟨z, H', I', rz, b, rfl, q'⟩ := hq
        cases rz
        exact ⟨.bl b, H', I', rfl, q'⟩) fun _ _ e => e)
    refine callType_codes (Q₁ := fun obj s₁ => ∃ b, obj = Value.bool b ∧ EP X pins σ Q obj s₁) PySem.F.called_bool (PySem.F.typeCall_bool_1 _) PySem.F.entry_object_init ?_ ?_
    · refine codeAny_call_builtin PySem.F.called_bool.plain PySem.F.entry_bool_new (wpAny_of_eq (PySem.F.newCall_bool_1 _) ?_)
      unfold Builtin.«bool.__new__»
      have f1 := PySem.F.conv_sub_bool
      refine wpAny_bind (wpAny_of_eq (a := true) rfl ?_)
      rw [if_neg (by decide)]
      refine wpAny_bind (wpAny_of_eq f1 ?_)
      rw [if_neg (by decide)]
      refine wpAny_bind (wpAny_of_eq (a := [Value.ref a]) (by rfl) ?_)
      dsimp only
      refine wpAny_bind (wpAny_mono tr (fun b s' hq => ?_) fun _ _ e => e)
      exact wpAny_pure ⟨_, rfl, hq⟩
    · rintro obj s₁ ⟨b, rfl, hq⟩
      have hT : s₁.TypeIs (.bool b) "bool" := PyProof.Rows.typeIs_bool' s₁ b
      exact ⟨hT, PySem.F.args_object_init_2 _ _, object_init_meets PySem.F.called_bool.init.lookup PySem.F.called_bool.made PySem.F.newNe_bool X.prog X.w X.A.in1 _ s₁ ⟨hT, rfl, hq⟩⟩
end
end Own
/-! ## slices, lists again and again, lists of truths -/
namespace Rd
open PySem PySem.Spec PyProof.Rows L2
section
variable {σ : L2.St} {H : Hp} {Q : VK} {K : PySem.W.Frag}
theorem sl {r : V → Option Int → Option Int → Hp → VK → Prop} {te : TE} {tl th : TO} (h : te σ H fun x H1 => tl σ H1 fun l H2 => th σ H2 fun u H3 => r x l u H3 Q) : tSl r te tl th σ H Q := h
theorem noPart {R : Option Int → Hp → Prop} (h : R none H) : tNoPart σ H R := h
theorem part {te : TE} {R : Option Int → Hp → Prop} (h : te σ H fun x H1 => ∃ i, x = .int i ∧ R (some i) H1) : tPart te σ H R := h
theorem cut_take {xs : List V} {k : Nat} (h : k ≤ xs.length) : cutV xs none (some (k : Int)) = xs.take k := by
  unfold cutV
  have e0 : HT.sIx xs.length 0 none = 0 := rfl
  have e1 : HT.sIx xs.length xs.length (some (k : Int)) = k := by
    unfold HT.sIx
    have z : ¬ ((k : Int) < 0) := by omega
    simp [z]
    omega
  rw [e0, e1, List.drop_zero, Nat.sub_zero]
theorem dp_bools : ∀ (H : Hp) (bs : List Bool), DpAll K H (bs.map V.bl) (bs.map PyData.bool)
  | _, [] => .nil
  | H, _ :: r => .cons (.bl _) (dp_bools H r)
theorem dp_listB {H : Hp} {a : Addr} {bs : List Bool} (h : SqL K H a (bs.map V.bl)) : Dp K H (.ref a) (.list (bs.map PyData.bool)) := .lst h (dp_bools H bs)
theorem can_bools : ∀ bs : List Bool, PyData.canLayAll0 (bs.map PyData.bool) = true
  | [] => by simp [PyData.canLayAll0]
  | _ :: r => by simp only [List.map_cons, PyData.canLayAll0, PyData.canLay0, can_bools r, Bool.and_self]
theorem dep_bools : ∀ bs : List Bool, PyData.depthAll (bs.map PyData.bool) = 0
  | [] => by simp [PyData.depthAll]
  | _ :: r => by simp only [List.map_cons, PyData.depthAll, PyData.depth, dep_bools r, Nat.max_self]
theorem shaped_listB (bs : List Bool) : SeqAt.shaped (.list (bs.map PyData.bool)) = true := by
  simp only [SeqAt.shaped, PyData.canLay0, can_bools, PyData.depth, dep_bools]
  decide
theorem eqvAll_bools : ∀ as bs : List Bool, PyData.eqvAll (as.map PyData.bool) (bs.map PyData.bool) = decide (as = bs)
  | [], [] => by simp [PyData.eqvAll]
  | [], _ :: _ => by simp [PyData.eqvAll]
  | _ :: _, [] => by simp [PyData.eqvAll]
  | x :: r, y :: q => by
    simp only [List.map_cons, PyData.eqvAll, PyData.eqv, eqvAll_bools r q]
    cases x <;> cases y <;> simp
theorem eqv_listB (as bs : List Bool) : PyData.eqv (.list (as.map PyData.bool)) (.list (bs.map PyData.bool)) = decide (as = bs) := by
  simp only [PyData.eqv, eqvAll_bools]
/-- the parts of a set: a list, two ints, a list -/
def partsD (e r : List Int) (s p : Int) : PyData := .tuple [.list (e.map PyData.int), .int s, .int p, .list (r.map PyData.int)]
theorem dp_parts {H : Hp} {q a b : Addr} {e r : List Int} {s p : Int} (h : SqT K H q [.ref a, .int s, .int p, .ref b]) (ha : SqL K H a (e.map V.int)) (hb : SqL K H b (r.map V.int)) : Dp K H (.ref q) (partsD e r s p) :=
  .tup h (.cons (dp_listI ha) (.cons (.int _) (.cons (.int _) (.cons (dp_listI hb) .nil))))
theorem shaped_parts (e r : List Int) (s p : Int) : SeqAt.shaped (partsD e r s p) = true := by
  simp only [partsD, SeqAt.shaped, PyData.canLay0, PyData.canLayAll0, can_ints, PyData.depth, PyData.depthAll, dep_ints]
  decide
theorem eqv_parts (e r e' r' : List Int) (s p s' p' : Int) : PyData.eqv (partsD e r s p) (partsD e' r' s' p') = decide (e = e' ∧ s = s' ∧ p = p' ∧ r = r') := by
  simp only [partsD, PyData.eqv, PyData.eqvAll, eqvAll_ints, Bool.and_true]
  rw [Bool.eq_iff_iff]
  simp
end
/-! what a while's test asks grows with what is wished -/
def ME (t : TE) : Prop := ∀ (σ : L2.St) (H : Hp) (Q Q' : VK), (∀ v H1, Q v H1 → Q' v H1) → t σ H Q → t σ H Q'
def MT (c : TT) : Prop := ∀ (σ : L2.St) (H : Hp) (R R' : Bool → Hp → Prop), (∀ b H1, R b H1 → R' b H1) → c σ H R → c σ H R'
def MR (f : R2) : Prop := ∀ (x y : V) (H : Hp) (Q Q' : VK), (∀ v H1, Q v H1 → Q' v H1) → f x y H Q → f x y H Q'
def MA (t : TA) : Prop := ∀ (σ : L2.St) (H : Hp) (Q Q' : List V → Hp → Prop), (∀ v H1, Q v H1 → Q' v H1) → t σ H Q → t σ H Q'
theorem mVar {i : Nat} : ME (tVar i) := fun _ _ _ _ h ⟨v, e, q⟩ => ⟨v, e, h _ _ q⟩
theorem mC {v : V} : ME (tC v) := fun _ _ _ _ h q => h _ _ q
theorem mOp {r : R2} {a b : TE} (f : MR r) (ha : ME a) (hb : ME b) : ME (tOp r a b) := fun σ H _ _ h z => ha σ H _ _ (fun x H1 z1 => hb σ H1 _ _ (fun y H2 z2 => f x y H2 _ _ h z2) z1) z
theorem mI0 {g : Int → Int → V} : MR (rI0 g) := fun _ _ _ _ _ h ⟨i, j, e, e', q⟩ => ⟨i, j, e, e', h _ _ q⟩
theorem mI {C : Int → Int → Prop} {g : Int → Int → V} : MR (rI C g) := fun _ _ _ _ _ h ⟨i, j, e, e', c, q⟩ => ⟨i, j, e, e', c, h _ _ q⟩
theorem mIxL {K : PySem.W.Frag} : MR (rIxL K) := fun _ _ _ _ _ h ⟨p, xs, i, v, e, e', s, l, q⟩ => ⟨p, xs, i, v, e, e', s, l, h _ _ q⟩
theorem mEq : MR rEq := fun _ _ _ _ _ h ⟨e, q⟩ => ⟨e, h _ _ q⟩
theorem mNil : MA tNil := fun _ _ _ _ h q => h _ _ q
theorem mCons {a : TE} {t : TA} (ha : ME a) (ht : MA t) : MA (tCons a t) := fun σ H _ _ h z => ha σ H _ _ (fun x H1 z1 => ht σ H1 _ _ (fun vs H2 z2 => h _ _ z2) z1) z
theorem mLen {K : PySem.W.Frag} {t : TA} (ht : MA t) : ME (tCB (fun xs H Q => ∃ p ys, xs = [V.ref p] ∧ (SqL K H p ys ∨ SqT K H p ys) ∧ Q (V.int ys.length) H) t) := fun σ H _ _ h z => ht σ H _ _ (fun vs H1 ⟨p, ys, e, s, q⟩ => ⟨p, ys, e, s, h _ _ q⟩) z
theorem mTest {t : TE} (ht : ME t) : MT (tTest t) := fun σ H _ _ h z => ht σ H _ _ (fun x H1 ⟨k, e, q⟩ => ⟨k, e, h _ _ q⟩) z
theorem mAnd {t u : TT} (ht : MT t) (hu : MT u) : MT (tAnd t u) := fun σ H _ _ h z => ht σ H _ _ (fun b H1 z1 => by
  by_cases hb : b = true
  · rw [if_pos hb] at z1 ⊢
    exact hu σ H1 _ _ h z1
  · rw [if_neg hb] at z1 ⊢
    exact h _ _ z1) z
/-- a field's reading within a comprehension -/
theorem pe_fldK {X : Cx} {K : PySem.W.Frag} {e : PySem.Expr} {f : PySem.Str} {pos : PySem.Pos} {ta : TE} (ek : X.K = K) (h : PE X e ta) (hb : PySem.attributeBase e f X.env (PySem.eval e X.env) = PySem.eval e X.env) : PE X (e.Attribute f pos) (tFld K ta f) := ek ▸ pe_fld h hb
theorem flat_intsL (ns : List Int) : (ns.map V.int).all flatV = true := by
  rw [List.all_eq_true]
  intro v hv
  obtain ⟨n, _, rfl⟩ := List.mem_map.mp hv
  rfl
theorem inV_intsL (i : Int) (ns : List Int) : inV (.int i) (ns.map V.int) = decide (i ∈ ns) := by
  unfold inV
  rw [List.any_map]
  induction ns with
  | nil => rfl
  | cons n ns ih =>
    rw [List.any_cons, ih]
    show (eqV (.int n) (.int i) || _) = _
    have e : eqV (.int n) (.int i) = decide (n = i) := by first | (simp [eqV]; done) | (simp [eqV]; rfl)
    rw [e]
    by_cases h : n = i
    · subst h; simp
    · have h' : ¬ i = n := fun z => h z.symm
      simp [h, h', List.mem_cons]
theorem mapAppL {ns : List Int} {v : Int} : ns.map V.int ++ [V.int v] = (ns ++ [v]).map V.int := by simp
theorem op_inK {X : Cx} {K : PySem.W.Frag} (e : X.K = K) : OpR X (PySem.compareOp .In) (rIn K false) := e ▸ op_in_seq
end Rd
/-! calls of an instance without arguments -/
namespace Own
open PySem PySem.Spec PyProof.Rows L2
theorem pe_callI0 {X : Cx} {CX : CXT} {k : Nat} {g C : Addr} {sp : Sp} {E : XK} {fe : Expr} {tf : TE} {pos : Pos} (hf : PE X fe tf) (c : StX.CallO X.K C g) (F : FnR X.prog X.w X.K X.mg X.base CX k g sp) (hr : Room k X.A) (hx : Passes CX X E)
    (ht : eval (.Call fe [] [] pos) X.env = (do callWith pos (← eval fe X.env) [] (backTo pos (starEach [] X.env)) (backToKw pos (keywordEach [] X.env))) := by rfl) : PE X (.Call fe [] [] pos) (tCallI C sp E tf tNil) := by
  refine ⟨fun pins s σ H Q I h => Call_ (thn (hf.run pins s σ H _ I h) fun u s1 z => ?_) ht⟩
  obtain ⟨y, H1, I1, ry, a, rfl, hi, q2⟩ := z
  cases ry
  refine StX.callO_of (args := backTo pos (starEach [] X.env)) rfl ?_
  obtain ⟨od, J⟩ : ∃ od, PySem.W.InstAt s1.heap a (PySem.W.instObj C hi.choose) C od := inst I1 hi.choose_spec.choose_spec
  refine wpAny_pure ?_
  exact ⟨⟨C, _, od, J, rfl⟩, StX.run_callO c F hr hx I1 (.inr hi) .nil q2⟩
end Own
namespace Own
open PySem PySem.Spec PyProof.Rows L2
/-- o[i] by the own __getitem__ -/
theorem pe_item {X : Cx} {CX : CXT} {k : Nat} {f C : Addr} {fd : FuncData} {ps : List Str} {sp : Sp} {E : XK} {a b : Expr} {ta tb : TE} {pos : Pos} (F : FnOk X.prog X.w X.K X.mg X.base CX k f fd ps sp) (hr : Room (k + 1) X.A) (B : Sp1 X.K C "__getitem__" f) (hfn : PySem.W.fnIn X.K f = true)
    (hb : Binds X.K fd ps []) (hx : Passes CX X E) (ha : PE X a ta) (hbb : PE X b tb)
    (hsl : ∀ o i, subscripted b true o i = runValue (.builtin "lifetime.subscript" ⟨[o, i], []⟩) := by intro _ _; with_unfolding_all rfl) :
    PE X (.Subscript a b pos) (tOp (fun x y H Q => ∃ a dx fs, x = .ref a ∧ H a = some (.ins C dx fs) ∧ sp [.ref a, y] H Q E) ta tb) := by
  refine ⟨fun pins s σ H Q I h => Subscript_ (binT ha hbb I h fun v u s2 x y H2 I2 rx ry q => ?_)⟩
  obtain ⟨a, dx, fs, rfl, ha', q⟩ := q
  cases rx
  obtain ⟨od, J⟩ := inst I2 ha'
  obtain ⟨m, hF⟩ := I2.fr
  exact PySem.W.sub_K hF I2.ok.mod.kin J B.at_ hfn B.fn (runIn (us := [.ref a, u]) (vs := [.ref a, y]) F hr hb hx I2 (.cons rfl (.cons ry .nil)) q) (hsl _ _)
end Own
/-! making an object in the body of a try, where __init__ may err: the wish of the errors looks at the slots -/
namespace TrM
open PySem PySem.Spec PyProof.Rows L2
section
variable {X : Cx} {CX : CXT} {k n : Nat} {f C : Addr} {fd : FuncData} {ps ks : List Str} {sp : Sp} {E : L2.St → XK} {x : Str} {p pos : Pos} {e : PySem.Expr} {es : List PySem.Expr} {kws : List Keyword} {t tk : TA} {g : List Value → List Value → List Value} {gV : List V → List V → List V}
/-- a call of the class: what its __init__ gives or lets out at these slots -/
theorem made {pins : List (Addr × Obj)} {σ : L2.St} {H : Hp} {s : Shared} {Q : VK} {us full : List Value} {kw : List (Str × Value)} {all : Addr → List V} (M : Mk X.K C f) (F : FnOk X.prog X.w X.K X.mg X.base CX k f fd ps sp) (hr : Room (k + 1) X.A) (hx : PassesAt CX X σ (E σ)) (I : Inv X pins σ H s)
    (hb : ∀ z : Shared, X.K.In z.heap → BindsTo z fd ⟨.ref (s.heap.objs.size + 1) :: us, kw⟩ (ps.zip full)) (r : Vals (all (s.heap.objs.size + 1)) full)
    (h : ∀ y dy, H y = none → H dy = none → dy ≠ y → sp (all y) (upd (upd H dy (.own y)) y (.ins C dy [])) (fun v H2 => v = .non ∧ Q (.ref y) H2) (E σ)) :
    wpAny (model X.prog X.w) X.A (PySem.call (.ref C) us kw) (EP X pins σ Q) X.xe s := by
  have J := Inv.made (C := C) I
  have due := h (s.heap.objs.size + 1) s.heap.objs.size (I.hok.fresh (Nat.le_succ _)) (I.hok.fresh (Nat.le_refl _)) (Nat.ne_of_lt (Nat.lt_succ_self _))
  have body := F.run _ X.stack _ _ ⟨.ref (s.heap.objs.size + 1) :: us, kw⟩ full _ _ (E σ) (hr.make C us kw) (J.env0.make C us kw) (hb _ J.kIn) r due
  refine wpAny_call (make_map (f := f) I.kIn M.makes M.init (beq_iff_eq.mp M.fn) (codeAny_mono body ?_))
  intro o z hz
  match o, hz with
  | .error e, hz => exact hx pins _ _ e z J hz
  | .ok (.ret u), hz =>
    obtain ⟨v, H3, J3, rv, rfl, q⟩ := J.after hz
    exact ⟨rv, .ref _, H3, J3, rfl, q⟩
/-- C(e, .., k = v, ..) in a try -/
def tMakeKS (C : Addr) (n m : Nat) (sp : Sp) (gV : List V → List V → List V) (E : L2.St → XK) (t tk : TA) : TE := fun σ H Q => t σ H fun vs H1 => tk σ H1 fun zs H2 => vs.length = n ∧ zs.length = m ∧ ∀ y dy, H2 y = none → H2 dy = none → dy ≠ y →
  sp (gV (.ref y :: vs) zs) (upd (upd H2 dy (.own y)) y (.ins C dy [])) (fun v H3 => v = .non ∧ Q (.ref y) H3) (E σ)
theorem pe_makeKS (M : Mk X.K C f) (F : FnOk X.prog X.w X.K X.mg X.base CX k f fd ps sp) (hr : Room (k + 1) X.A) (hg : Gl X x) (hm : X.mg x = some (.ref C)) (hb : KBn X.K fd ps (n + 1) ks g gV) (hx : ∀ σ, PassesAt CX X σ (E σ)) (ha : PA X (e :: es) t) (hkw : PK X kws tk)
    (w1 : (backToKw pos (keywordEach kws X.env)).all (·.1.isSome) = true := by rfl) (w2 : (backToKw pos (keywordEach kws X.env)).filterMap (·.1) = ks := by rfl) (w3 : (x == ("__debug__" : Str)) = false := by decide)
    (w4 : starEach (e :: es) X.env = (false, eval e X.env) :: starEach es X.env := by rfl) (w5 : ((backTo pos (starEach (e :: es) X.env)).any (·.1) || (backToKw pos (keywordEach kws X.env)).any (·.1.isNone)) = false := by rfl) :
    PE X (.Call (.Name x p) (e :: es) kws pos) (tMakeKS C n ks.length sp gV E t tk) := by
  refine ⟨fun pins s σ H Q I h => wpAny_Call_Name_kw (ld_glob I hg hm (PySem.W.callWith_KW (h₀ := X.base) I.ok.mod.kin M.kp w1 (thn (ha.run pos pins s σ H _ I h) fun us s1 q1 => ?_) w5 w4) w3)⟩
  obtain ⟨vs, H1, I1, r, q1⟩ := q1
  refine thn (hkw.run pos pins s1 σ H1 _ I1 q1) fun ws s2 q2 => ?_
  obtain ⟨zs, H2, I2, rz, l1, l2, q2⟩ := q2
  refine ⟨I2.kIn, ?_⟩
  rw [w2]
  exact made (all := fun y => gV (.ref y :: vs) zs) M F hr (hx σ) I2 (fun z hz => hb.to z _ ws hz (by rw [List.length_cons, List.nil_append, ← r.length, l1]) (rz.length.symm.trans l2)) (hb.rel (.cons rfl r) rz) q2
/-- C(e, ..) in a try -/
def tMakeS (C : Addr) (sp : Sp) (dvs : List V) (E : L2.St → XK) (t : TA) : TE := fun σ H Q => t σ H fun vs H1 => ∀ y dy, H1 y = none → H1 dy = none → dy ≠ y → sp (.ref y :: (vs ++ dvs)) (upd (upd H1 dy (.own y)) y (.ins C dy [])) (fun v H2 => v = .non ∧ Q (.ref y) H2) (E σ)
theorem pe_makeS {dvs : List V} {ds : List Value} (M : Mk X.K C f) (F : FnOk X.prog X.w X.K X.mg X.base CX k f fd ps sp) (hr : Room (k + 1) X.A) (hg : Gl X x) (hm : X.mg x = some (.ref C)) (hb : Binds X.K fd ps ds) (hd : Vals dvs ds) (hx : ∀ σ, PassesAt CX X σ (E σ)) (ha : PA X (e :: es) t)
    (w3 : (x == ("__debug__" : Str)) = false := by decide) (w4 : starEach (e :: es) X.env = (false, eval e X.env) :: starEach es X.env := by rfl) (w5 : (backTo pos (starEach es X.env)).any (·.1) = false := by rfl) :
    PE X (.Call (.Name x p) (e :: es) [] pos) (tMakeS C sp dvs E t) := by
  refine ⟨fun pins s σ H Q I h => wpAny_Call_Name_kw (ld_glob I hg hm (PySem.W.callWith_K (h₀ := X.base) I.ok.mod.kin M.kp (thn (ha.run pos pins s σ H _ I h) fun us s1 q1 => ?_) w4 w5) w3)⟩
  obtain ⟨vs, H1, I1, r, q1⟩ := q1
  refine ⟨I1.kIn, ?_⟩
  have hq := q1 (s1.heap.objs.size + 1) s1.heap.objs.size (I1.hok.fresh (Nat.le_succ _)) (I1.hok.fresh (Nat.le_refl _)) (Nat.ne_of_lt (Nat.lt_succ_self _))
  have l : ((Value.ref (s1.heap.objs.size + 1) :: us) ++ ds).length = ps.length := by
    have := F.len _ _ _ _ hq
    rw [← this, List.cons_append, List.length_cons, List.length_cons, List.length_append, List.length_append, ← r.length, ← hd.length]
  exact made (all := fun y => .ref y :: (vs ++ dvs)) M F hr (hx σ) I1 (fun z hz => hb z (.ref (s1.heap.objs.size + 1) :: us) hz l) (.cons rfl (r.append hd)) q1
end
end TrM
namespace Rd
open PySem PySem.Spec PyProof.Rows L2
theorem mkKS {C : Addr} {n m : Nat} {sp : Sp} {gV : List V → List V → List V} {E : L2.St → XK} {t tk : TA} {σ : L2.St} {H : Hp} {Q : VK} (h : t σ H fun vs H1 => tk σ H1 fun zs H2 => vs.length = n ∧ zs.length = m ∧ ∀ y dy, H2 y = none → H2 dy = none → dy ≠ y →
    sp (gV (.ref y :: vs) zs) (upd (upd H2 dy (.own y)) y (.ins C dy [])) (fun v H3 => v = .non ∧ Q (.ref y) H3) (E σ)) : TrM.tMakeKS C n m sp gV E t tk σ H Q := h
theorem mkS {C : Addr} {sp : Sp} {dvs : List V} {E : L2.St → XK} {t : TA} {σ : L2.St} {H : Hp} {Q : VK} (h : t σ H fun vs H1 => ∀ y dy, H1 y = none → H1 dy = none → dy ≠ y →
    sp (.ref y :: (vs ++ dvs)) (upd (upd H1 dy (.own y)) y (.ins C dy [])) (fun v H2 => v = .non ∧ Q (.ref y) H2) (E σ)) : TrM.tMakeS C sp dvs E t σ H Q := h
end Rd
namespace Rd
open PySem PySem.Spec PyProof.Rows L2
section
variable {σ : L2.St} {H : Hp} {Q : VK}
theorem mkKn {C : Addr} {n m : Nat} {sp : Sp} {gV : List V → List V → List V} {E : XK} {t tk : TA} (h : t σ H fun vs H1 => tk σ H1 fun zs H2 => vs.length = n ∧ zs.length = m ∧ ∀ x dx, H2 x = none → H2 dx = none → dx ≠ x →
    sp (gV (.ref x :: vs) zs) (upd (upd H2 dx (.own x)) x (.ins C dx [])) (fun v H3 => v = .non ∧ Q (.ref x) H3) E) : tMakeK C n m sp gV E t tk σ H Q := h
theorem setD {a : Addr} {kvs : List (Key × V)} {z : Str} {v : V} {q : Hp → Prop} (e : H a = some (.dK kvs)) (l : kvs.length < sizeLine) (h : q (upd H a (.dK (putK kvs (.inr z) v)))) : rSetD (.ref a) (.str z) v H q :=
  ⟨a, _, rfl, DPut.k (k := Sum.inr z) e l, h⟩
end
end Rd
/-! operators of own classes in the body of a try, where their methods may err: the wish of the errors looks at the slots -/
namespace TrO
open PySem PySem.Spec PyProof.Rows L2 Own
section
variable {X : Cx} {CX : CXT} {k : Nat} {f C : Addr} {fd : FuncData} {ps : List Str} {sp : Sp} {E : L2.St → XK} {op : Operator}
theorem runInS {pins : List (Addr × Obj)} {σ : L2.St} {H : Hp} {s : Shared} {Q : VK} {us : List Value} {vs : List V} (F : FnOk X.prog X.w X.K X.mg X.base CX k f fd ps sp) (hr : Room (k + 1) X.A) (hb : Binds X.K fd ps []) (hx : PassesAt CX X σ (E σ))
    (I : Inv X pins σ H s) (r : Vals vs us) (h : sp vs H Q (E σ)) : wpAny (model X.prog X.w) X.A.in1 (PySem.call (.ref f) us) (EP X pins σ Q) X.xe s := by
  have n : us.length = ps.length := r.length.symm.trans (F.len _ _ _ _ h)
  have b := hb s us I.kIn (by rw [List.append_nil]; exact n)
  rw [List.append_nil] at b
  refine wpAny_call (codeAny_mono (F.run X.A.in1 X.stack s H ⟨us, []⟩ us vs Q (E σ) hr.in1 I.env0.in1 b r h) fun o z hz => ?_)
  match o, hz with
  | .error e, hz => exact hx pins H s e z I hz
  | .ok (.ret u), hz => exact I.after hz
/-- o[i] by the own __getitem__, in a try -/
def tItemS (C : Addr) (sp : Sp) (E : L2.St → XK) (ta tb : TE) : TE := fun σ H Q => ta σ H fun x H1 => tb σ H1 fun y H2 => ∃ a dx fs, x = .ref a ∧ H2 a = some (.ins C dx fs) ∧ sp [.ref a, y] H2 Q (E σ)
theorem pe_itemS {a b : PySem.Expr} {ta tb : TE} {pos : Pos} (F : FnOk X.prog X.w X.K X.mg X.base CX k f fd ps sp) (hr : Room (k + 1) X.A) (B : Sp1 X.K C "__getitem__" f) (hfn : PySem.W.fnIn X.K f = true)
    (hb : Binds X.K fd ps []) (hx : ∀ σ, PassesAt CX X σ (E σ)) (ha : PE X a ta) (hbb : PE X b tb)
    (hsl : ∀ o i, subscripted b true o i = runValue (.builtin "lifetime.subscript" ⟨[o, i], []⟩) := by intro _ _; with_unfolding_all rfl) :
    PE X (.Subscript a b pos) (tItemS C sp E ta tb) := by
  refine ⟨fun pins s σ H Q I h => Subscript_ (binT ha hbb I h fun v u s2 x y H2 I2 rx ry q => ?_)⟩
  obtain ⟨a, dx, fs, rfl, hi, q⟩ := q
  cases rx
  obtain ⟨od, J⟩ := inst I2 hi
  obtain ⟨m, hF⟩ := I2.fr
  exact PySem.W.sub_K hF I2.ok.mod.kin J B.at_ hfn B.fn (runInS (us := [.ref a, u]) (vs := [.ref a, y]) F hr hb (hx σ) I2 (.cons rfl (.cons ry .nil)) q) (hsl _ _)
/-- x op= e by an own in-place method, in a try -/
def tAugS (i : Nat) (C : Addr) (sp : Sp) (E : L2.St → XK) (te : TE) : TS := fun D σ H => ∃ x, σ[i]? = some (some x) ∧ te σ H fun y H1 => ∃ a dx fs, x = .ref a ∧ H1 a = some (.ins C dx fs) ∧ sp [.ref a, y] H1 (fun z H2 => D.nx (σ.set i (some z)) H2) (E σ)
theorem ps_augS {i : Nat} {x : Str} {e : PySem.Expr} {te : TE} {q1 q2 : Pos} (hN : X.N.Nodup) (hi : X.N[i]? = some x) (hl0 : X.env.scope.names.lookup x = some .local) (he : PE X e te) (F : FnOk X.prog X.w X.K X.mg X.base CX k f fd ps sp) (hr : Room k X.A)
    (c1 : PySem.W.selfFirst X.K C = true) (c2 : Sp1 X.K C (dunderI op.info.2) f) (hb : Binds X.K fd ps []) (hx : ∀ σ, PassesAt CX X σ (E σ)) :
    PS X (.AugAssign (.Name x q1) op e q2) (tAugS i C sp E te) := by
  refine ⟨fun pins s σ H D I h => wpAny_AugAssign_Name ?_⟩
  obtain ⟨v, ev, h⟩ := h
  obtain ⟨m, nm, ll⟩ := I.loc
  obtain ⟨u, r, look⟩ := ll i x v hi ev (.inl hl0)
  have go : wpAny (model X.prog X.w) X.A (eval e X.env) (fun y s2 => wpAny (model X.prog X.w) X.A (inplaceOp op u y) (fun z s3 => wpAny (model X.prog X.w) X.A (storeName X.env x z) (fun _ => SP X pins D .next) X.xe s3) X.xe s2) X.xe s := by
    refine thn (he.run pins s σ H _ I h) fun y s1 g => ?_
    obtain ⟨yv, H1, I1, ry, a, dx, fs, rfl, ha, g⟩ := g
    cases r
    obtain ⟨od, J⟩ := inst I1 ha
    obtain ⟨m1, hF⟩ := I1.fr
    refine thn (PySem.W.ksp_inplace hF I1.ok.mod.kin J c1 c2.at_ c2.fn (back (run_fnS (us := [.ref a, y]) (vs := [.ref a, yv]) F hr hb (hx σ) I1 (.cons rfl (.cons ry .nil)) g))) fun z s2 g2 => ?_
    obtain ⟨zv, H2, I2, rz, g3⟩ := g2
    exact store_ok I2 hN hi (.inl hl0) rz (fun s3 I3 => ⟨_, H2, I3, g3⟩) (.inr hl0)
  rcases look with ⟨k1, k2⟩ | ⟨k1, c, k3, k4⟩
  · exact wpAny_loadName_local I.ok.kind k1 nm k2 go
  · rcases k1 with k1 | k1
    · have z : X.env.scope.names.lookup x = some .cell := k1
      rw [hl0] at z; cases z
    · have z : X.env.scope.names.lookup x = some .free := k1
      rw [hl0] at z; cases z
end
end TrO
namespace Rd
open PySem PySem.Spec PyProof.Rows L2
section
variable {σ : L2.St} {H : Hp} {Q : VK} {D : Ends} {C : Addr} {sp : Sp} {E : L2.St → XK}
theorem itS {ta tb : TE} (h : ta σ H fun x H1 => tb σ H1 fun y H2 => ∃ a dx fs, x = V.ref a ∧ H2 a = some (.ins C dx fs) ∧ sp [.ref a, y] H2 Q (E σ)) : TrO.tItemS C sp E ta tb σ H Q := h
theorem augS {i : Nat} {te : TE} {x : V} (e : σ[i]? = some (some x)) (h : te σ H fun y H1 => ∃ a dx fs, x = V.ref a ∧ H1 a = some (.ins C dx fs) ∧ sp [.ref a, y] H1 (fun z H2 => D.nx (σ.set i (some z)) H2) (E σ)) : TrO.tAugS i C sp E te D σ H := ⟨x, e, h⟩
end
end Rd
/-! a loop over a written tuple whose body is told by what stands behind a turn (a try in the body looks at it, too) -/
namespace Rd
open PySem PySem.Spec PyProof.Rows L2
def unrB (K : PySem.W.Frag) (a : Addr) (all : List V) (B : (L2.St → Hp → Prop) → V → L2.St → Hp → Prop) (fin : L2.St → Hp → Prop) : List V → L2.St → Hp → Prop
  | [], σ, H => fin σ H
  | x :: xs, σ, H => B (fun σ' H' => SqT K H' a all ∧ unrB K a all B fin xs σ' H') x σ H
section
variable {K : PySem.W.Frag} {σ : L2.St} {H : Hp} {a : Addr} {all : List V} {B : (L2.St → Hp → Prop) → V → L2.St → Hp → Prop} {fin : L2.St → Hp → Prop}
theorem unrollB (h0 : SqT K H a all) (h : unrB K a all B fin all σ H) :
    (∃ xs, SqT K H a xs) ∧ ∃ W : Nat → Nat → L2.St → Hp → Prop, (∃ m, W 0 m σ H) ∧ ∀ i m σ H, W i m σ H →
      ((Itt K a).stop i H ∧ fin σ H) ∨ ((Itt K a).go i H ∧ ∃ N : L2.St → Hp → Prop, (∀ σ' H', N σ' H' → ∃ m', m' < m ∧ W (i + 1) m' σ' H') ∧ ∀ x H', (Itt K a).yld i H x H' → B N x σ H') := by
  have z := for_tup (K := K) (a := a) (xs := all) (D := { nx := fin, rt := fun _ _ => False }) (g := fun x σ H k => B k x σ H) (tb := fun D => D.nx) (σ := σ) (H := H) (fun i σ H => SqT K H a all ∧ unrB K a all B fin (all.drop i) σ H) ⟨h0, h⟩ (fun i σ H _ p => p.1) (fun i x σ H hx p => ?_) (fun σ H p => ?_)
  · exact ⟨⟨_, h0⟩, z⟩
  · have q := p.2
    rw [drop_at hx] at q
    exact q
  · have q := p.2
    rw [List.drop_length] at q
    exact q
theorem unrBCons {x : V} {xs : List V} (h : B (fun σ' H' => SqT K H' a all ∧ unrB K a all B fin xs σ' H') x σ H) : unrB K a all B fin (x :: xs) σ H := h
theorem unrBNil (h : fin σ H) : unrB K a all B fin [] σ H := h
end
end Rd

/-! ## heaps: what a step leaves -/
def Frm (a : Nat) (H H' : L2.Hp) : Prop := ∀ b o, H b = some o → b ≠ a → H' b = some o
section
open PySem L2
variable {H H' H1 H2 : Hp} {a b p : Nat} {o u : HO}
theorem Frm.get (f : Frm a H H') (h : H b = some o) (n : b ≠ a) : H' b = some o := f b o h n
theorem Sget (f : L2.Same H H') (h : H b = some o) : H' b = some o := f b o h
theorem Frm.free (f : Frm a H H') (n : b ≠ a) (h : H' b = none) : H b = none := by
  cases q : H b with
  | none => rfl
  | some o => rw [f b o q n] at h; cases h
theorem Sfree (f : L2.Same H H') (h : H' b = none) : H b = none := L2.Same.free f h
theorem updFree (h : upd H a o b = none) : H b = none := by
  unfold upd at h
  split at h
  · cases h
  · exact h
theorem updGet' (h : H b = some o) (n : b ≠ a) : upd H a u b = some o := by rw [upd_ne n]; exact h
theorem ne_none (h : H b = none) (h' : H a = some o) : a ≠ b := ne_of_none h' h
theorem ne_none' (h : H a = none) (h' : H b = some o) : a ≠ b := (ne_of_none h' h).symm
theorem updFresh (n : H a = none) (h : H b = some o) : upd H a u b = some o := updGet' h (ne_of_none h n)
theorem updMade {x dx : Nat} {v : HO} (n : H x = none) (m : H dx = none) (h : H b = some o) : upd (upd H dx u) x v b = some o := updGet' (updGet' h (ne_of_none h m)) (ne_of_none h n)
theorem Frm.get' (f : Frm a H H') (n : b ≠ a) (h : H b = some o) : H' b = some o := f b o h n
theorem updGet (n : b ≠ a) (h : H b = some o) : upd H a u b = some o := by rw [upd_ne n]; exact h
end

local macro_rules | `(tactic| walk_at "hp") => `(tactic| first
  | with_reducible assumption
  | with_reducible exact L2.upd_same
  | ((with_reducible apply updFresh); (· with_reducible assumption); (· walk_at "hp"))
  | ((with_reducible apply updMade); (· with_reducible assumption); (· with_reducible assumption); (· walk_at "hp"))
  | ((with_reducible apply updGet); (· walk_at "ne"); (· walk_at "hp"))
  | ((with_reducible apply Sget); (· with_reducible assumption); (· walk_at "hp"))
  | ((with_reducible apply Frm.get'); (· with_reducible assumption); (· walk_at "ne"); (· walk_at "hp"))
  | fail "hp")
local macro_rules | `(tactic| walk_at "ne") => `(tactic| first
  | with_reducible assumption
  | exact Ne.symm (by with_reducible assumption)
  | ((with_reducible apply ne_none); (· with_reducible assumption); (· walk_at "hp"))
  | ((with_reducible apply ne_none'); (· with_reducible assumption); (· walk_at "hp"))
  | ((with_reducible apply L2.ne_of); (· walk_at "hp"); (· walk_at "hp"); (· (intro z; cases z)))
  | fail "ne")
local macro_rules | `(tactic| walk_at "vr") => `(tactic| with_unfolding_all rfl)
local macro_rules | `(tactic| walk_at "hpl") => `(tactic| first
  | with_reducible assumption
  | ((with_reducible apply L2.SqL.of); walk_at "hp"))
local macro_rules | `(tactic| walk_at "hpt") => `(tactic| first
  | with_reducible assumption
  | ((with_reducible apply L2.SqT.of); walk_at "hp"))
local macro_rules | `(tactic| walk_at "hpq") => `(tactic| first
  | with_reducible assumption
  | (apply Or.inl; walk_at "hpl")
  | (apply Or.inr; walk_at "hpt"))
local macro_rules | `(tactic| walk_at "sc") => `(tactic| first
  | with_reducible assumption
  | omega
  | decide
  | ((repeat' split) <;> omega))
local macro_rules | `(tactic| walk_at "scp") => `(tactic| (unfold L2.CPow; omega))
local macro_rules | `(tactic| walk_at "ll") => `(tactic| with_unfolding_all exact Nat.le_of_ble_eq_true rfl)
theorem wm {i j : Int} (hi : -(2 ^ 200) < i ∧ i < 2 ^ 200) (hj : -(2 ^ 200) < j ∧ j < 2 ^ 200) : L2.CMulW i j :=
  L2.wide_mul (a := 200) (b := 200) (by omega) (by omega) (by decide) (by decide) (by decide)
theorem wd {i j : Int} (h : 0 < j) (hj : j < 2 ^ 200) : L2.CDivW i j :=
  L2.wide_div (b := 200) h (by omega) (by decide) (by decide)
local macro_rules | `(tactic| walk_at "scm") => `(tactic| exact wm ⟨by walk_at "sc", by walk_at "sc"⟩ ⟨by walk_at "sc", by walk_at "sc"⟩)
local macro_rules | `(tactic| walk_at "scd") => `(tactic| exact wd (by walk_at "sc") (by walk_at "sc"))
local macro_rules | `(tactic| walk_at "clsv") => `(tactic| first | exact L2.ClsV.ty _ | exact L2.ClsV.own _)
local macro_rules | `(tactic| walk_at "kit") => `(tactic| first | with_reducible exact Rd.kit_int_int | with_reducible exact Rd.kit_int_bool | with_reducible exact Rd.kit_bool_bool | with_reducible exact Rd.kit_str_str | with_reducible exact Rd.kit_bool_int | with_reducible exact Rd.kit_str_int | with_reducible exact Rd.kit_none_int | with_reducible exact Rd.kit_tuple_int | with_reducible exact Rd.kit_list_int | with_reducible exact Rd.kit_dict_int | with_reducible exact Rd.kit_str_bool | with_reducible exact Rd.kit_int_str | with_reducible assumption)
local macro_rules | `(tactic| walk_at "nf") => `(tactic| with_reducible assumption)
local macro_rules | `(tactic| walk_at "tyx") => `(tactic| first | exact L2.TyX.base (L2.TyOf.int _) | exact L2.TyX.base (L2.TyOf.bl _) | exact L2.TyX.base L2.TyOf.non | exact L2.TyX.base (L2.TyOf.str _) | ((with_reducible apply Rd.ty_tup); walk_at "hp") | ((with_reducible apply Rd.ty_lst); walk_at "hp"))
local macro_rules | `(tactic| walk_at "frm") => `(tactic| first | (intro b o hb; walk_at "hp") | (intro b o hb hn; walk_at "hp"))
local macro_rules | `(tactic| walk_at "nn") => `(tactic| first
  | with_reducible assumption
  | exact updFree (by with_reducible assumption)
  | exact updFree (updFree (by with_reducible assumption))
  | exact updFree (updFree (updFree (by with_reducible assumption)))
  | exact updFree (updFree (updFree (updFree (by with_reducible assumption))))
  | exact updFree (updFree (updFree (updFree (updFree (by with_reducible assumption)))))
  | exact updFree (updFree (updFree (updFree (updFree (updFree (by with_reducible assumption))))))
  | exact updFree (updFree (updFree (updFree (updFree (updFree (updFree (by with_reducible assumption)))))))
  | exact updFree (updFree (updFree (updFree (updFree (updFree (updFree (updFree (by with_reducible assumption))))))))
  | exact updFree (updFree (updFree (updFree (updFree (updFree (updFree (updFree (updFree (by with_reducible assumption)))))))))
  | exact updFree (updFree (updFree (updFree (updFree (updFree (updFree (updFree (updFree (updFree (by with_reducible assumption))))))))))
  | exact updFree (updFree (updFree (updFree (updFree (updFree (updFree (updFree (updFree (updFree (updFree (by with_reducible assumption)))))))))))
  | exact updFree (updFree (updFree (updFree (updFree (updFree (updFree (updFree (updFree (updFree (updFree (updFree (by with_reducible assumption))))))))))))
  | exact updFree (updFree (updFree (updFree (updFree (updFree (updFree (updFree (updFree (updFree (updFree (updFree (updFree (by with_reducible assumption)))))))))))))
  | exact updFree (updFree (updFree (updFree (updFree (updFree (updFree (updFree (updFree (updFree (updFree (updFree (updFree (updFree (by with_reducible assumption))))))))))))))
  | exact updFree (updFree (updFree (updFree (updFree (updFree (updFree (updFree (updFree (updFree (updFree (updFree (updFree (updFree (updFree (by with_reducible assumption)))))))))))))))
  | exact updFree (updFree (updFree (updFree (updFree (updFree (updFree (updFree (updFree (updFree (updFree (updFree (updFree (updFree (updFree (updFree (by with_reducible assumption))))))))))))))))
  | exact updFree (updFree (updFree (updFree (updFree (updFree (updFree (updFree (updFree (updFree (updFree (updFree (updFree (updFree (updFree (updFree (updFree (by with_reducible assumption)))))))))))))))))
  | exact updFree (updFree (updFree (updFree (updFree (updFree (updFree (updFree (updFree (updFree (updFree (updFree (updFree (updFree (updFree (updFree (updFree (updFree (by with_reducible assumption))))))))))))))))))
  | ((with_reducible apply Sfree); (· with_reducible assumption); (· walk_at "nn")))
local macro_rules | `(tactic| walk_at "em") => `(tactic| first | rfl | (simp only [Int.emod_add_emod, Int.emod_sub_emod, Int.sub_emod_emod, Int.emod_emod]; first | done | rfl | (congr 1; omega)))
local macro_rules | `(tactic| walk_at "dp") => `(tactic| first | ((with_reducible apply Rd.dp_nil); walk_at "hpl") | ((with_reducible apply Rd.dp_listI); walk_at "hpl") | ((with_reducible apply Rd.dp_pair); walk_at "hpt") | ((with_reducible apply L2.Dp.lst); (· walk_at "hpl"); (· walk_at "dpa")) | ((with_reducible apply L2.Dp.tup); (· walk_at "hpt"); (· walk_at "dpa")))
local macro_rules | `(tactic| walk_at "dpt") => `(tactic| first | ((with_reducible apply Rd.dp_pair); (· walk_at "hpt")) | ((with_reducible apply L2.Dp.tup); (· walk_at "hpt"); (· walk_at "dpa")) | fail "dpt")
local macro_rules | `(tactic| walk_at "dpa") => `(tactic| first | with_reducible exact L2.DpAll.nil | ((with_reducible apply L2.DpAll.cons); (· walk_at "dp1"); (· walk_at "dpa")))
local macro_rules | `(tactic| walk_at "dp1") => `(tactic| first | with_reducible exact L2.Dp.int _ | with_reducible exact L2.Dp.bl _ | with_reducible exact L2.Dp.str _ | with_reducible exact L2.Dp.non | walk_at "dp")
local macro_rules | `(tactic| walk_at "shp") => `(tactic| first | with_reducible exact Rd.shaped_pair _ _ | with_reducible exact Rd.shaped_listI _ | with_reducible exact Rd.shaped_nil | (simp only [PySem.SeqAt.shaped, PySem.PyData.canLay0, PySem.PyData.canLayAll0, PySem.PyData.depth, PySem.PyData.depthAll]; rfl))
local macro_rules | `(tactic| walk_at "ty0") => `(tactic| exact Own.ty_int)
local macro_rules | `(tactic| walk_at "sfl") => `(tactic| first | with_unfolding_all exact Nat.le_of_ble_eq_true rfl | ((refine Rd.lput ?_); (repeat refine Rd.lputs ?_); with_unfolding_all exact Nat.le_of_ble_eq_true rfl))
local macro_rules | `(tactic| walk_at "ixn") => `(tactic| first | with_unfolding_all rfl | decide)
local macro_rules | `(tactic| walk_at "bT") => `(tactic| first | (simp only [PySem.PyData.eqv, PySem.PyData.eqvAll, beq_self_eq_true, Bool.and_self]; done) | (exact decide_eq_true rfl) | (simp only [L2.V.int.injEq, L2.V.bl.injEq, decide_eq_true_eq]; omega) | with_unfolding_all rfl | with_reducible assumption | exact decide_eq_true (by walk_at "sc"))
local macro_rules | `(tactic| walk_at "bF") => `(tactic| first | (simp only [← Int.sub_emod, decide_true, Bool.not_true]; done) | (simp only [L2.V.int.injEq, Int.emod_eq_emod_iff_emod_sub_eq_zero, eq_self, decide_true, Bool.true_and, Bool.not_true]; done) | (simp only [Rd.eqv_pairV, Rd.eqv_listI, Rd.eqv_nil, Bool.and_self, Bool.not_true, decide_true]; done) | with_unfolding_all rfl | with_reducible assumption | exact decide_eq_false (by walk_at "sc") | (simp only [L2.V.int.injEq, L2.V.bl.injEq, decide_eq_false_iff_not, Bool.not_eq_false', Bool.not_eq_eq_eq_not, Bool.not_false, decide_eq_true_eq]; omega) | (simp only [L2.V.int.injEq, Bool.and_eq_false_iff, decide_eq_false_iff_not]; first | omega | exact Or.inl (by omega)))

/-! ## the law's source of numbers: two ints in a list -/
section
open PySem L2
/-- what stands in the list -/
def SrcO (o : HO) : Prop := ∃ x y : Int, o = .lst [.int x, .int y] ∧ 0 ≤ x ∧ 0 ≤ y ∧ y < 2147483647
/-- a draw -/
abbrev spDraw : Sp := fun vs H Q _ => ∃ (a : Addr) (o : HO) (m : Int), vs = [.ref a, .int m] ∧ H a = some o ∧ SrcO o ∧ 0 < m ∧ m < 2 ^ 190 ∧
  ∀ (d : Int) (o' : HO), 0 ≤ d → d < m → SrcO o' → Q (.int d) (upd H a o')
/-- a fresh source -/
abbrev spSource (K : PySem.W.Frag) : Sp := fun vs H Q _ => ∃ (a : Addr) (ns : List Int) (t : Int), vs = [.ref a, .int t] ∧ SqL K H a (ns.map V.int) ∧ 0 ≤ t ∧ t < 1000000 ∧
  ∀ (p : Addr) (o : HO), H p = none → SrcO o → Q (.ref p) (upd H p o)
theorem sq_nonneg {y : Int} (h : 0 ≤ y) : 0 ≤ y * y := Int.mul_nonneg h h
theorem atI_map {ns : List Int} {t : Int} (h0 : 0 ≤ t) (h : t < (ns.length : Int)) : ∃ z : Int, atI (ns.map V.int) t = some (.int z) := by
  obtain ⟨j, rfl⟩ : ∃ j : Nat, t = (j : Int) := ⟨t.toNat, by omega⟩
  have hj : j < ns.length := by omega
  exact ⟨ns[j], atI_nat (by rw [List.getElem?_map, List.getElem?_eq_getElem hj]; rfl)⟩
/-- an item of a list of ints at a drawn place: what all its items keep -/
theorem pickI {ns : List Int} {P : Int → Prop} (hP : ∀ n ∈ ns, P n) {d : Int} (h0 : 0 ≤ d) (h : d < (ns.length : Int)) : ∃ n : Int, atI (ns.map V.int) d = some (.int n) ∧ P n := by
  obtain ⟨j, rfl⟩ : ∃ j : Nat, d = (j : Int) := ⟨d.toNat, by omega⟩
  have hj : j < ns.length := by omega
  exact ⟨ns[j], atI_nat (by rw [List.getElem?_map, List.getElem?_eq_getElem hj]; rfl), hP _ (List.getElem_mem hj)⟩
end

/-! ## the head: what the top leaves, looked at in one run -/
namespace Hd
open PySem PySem.Spec PyProof.Rows L2
/-- a def: its place (read off what is looked at), its two names, its text, its defaults -/
structure Df where
  ad : PySem.W.Frag → Addr
  nm : Str
  ql : Str
  st : Stmt
  dv : List V
  kw : List (Str × V)
def Df.see (K : PySem.W.Frag) (d : Df) : He.FnW := match K.lookup (d.ad K) with
  | some ⟨_, _, .func z, _⟩ => some (z.name, z.qualname, z.params, z.body, z.scope, z.globals, z.closure, z.builtins)
  | _ => none
def Df.due (d : Df) : He.FnW := some (d.nm, d.ql, defArgs d.st, .stmts (defBody d.st), defScope d.st, mainGlobals, [], builtinsNs)
def Df.good (K : PySem.W.Frag) (d : Df) : Bool := (match K.lookup (d.ad K) with
  | some ⟨_, _, .func z, _⟩ => (He.dflB K z.defaults d.dv && He.kwdB K z.kwdefaults d.kw) && PySem.W.codeIn K z.code d.ql
  | _ => false) && PySem.W.keepIn K (.ref (d.ad K))
theorem Df.fn {K : PySem.W.Frag} {d : Df} (s : d.see K = d.due) (g : d.good K = true) : ∃ fd, FunD K d.nm d.ql (defArgs d.st) (defBody d.st) (defScope d.st) d.dv d.kw (d.ad K) fd := by
  obtain ⟨g1, g2⟩ := He.ba g
  unfold Df.see at s
  cases e : K.lookup (d.ad K) with
  | none => simp only [e] at g1; cases g1
  | some o =>
    obtain ⟨c, dd, dt, sl⟩ := o
    cases dt with
    | func z =>
      simp only [e] at g1 s
      obtain ⟨g3, g4⟩ := He.ba g1
      obtain ⟨g5, g6⟩ := He.ba g3
      obtain ⟨a1, a2, a3, a4, a5, a6, a7, a8, a9, a10, a11, a12, a13, a14, a15⟩ := z
      simp only [Df.due, Option.some.injEq, Prod.mk.injEq] at s
      obtain ⟨h1, h2, h3, h4, h5, h6, h7, h8⟩ := s
      subst h1 h2 h3 h4 h5 h6 h7 h8
      exact ⟨_, ⟨c, dd, a8, a9, a10, a11, a12, a13, a14, sl, rfl, e, g4, He.dflB_ok g5, He.kwdB_ok g6⟩, g2⟩
    | _ => simp only [e] at g1; cases g1
theorem plain {K : PySem.W.Frag} {x q : Str} {st : Stmt} {f : Addr} {fd : FuncData} (F : FunD K x q (defArgs st) (defBody st) (defScope st) [] [] f fd) : Fun K x q st f fd := by
  obtain ⟨⟨oc, od, dV, kV, doc, pm, an, cdv, ct, sl, e, l, c, hd, _⟩, kp⟩ := F
  rcases hd with ⟨_, z⟩ | ⟨z, _⟩
  · subst z; exact ⟨⟨oc, od, kV, doc, pm, an, cdv, ct, sl, e, l, c⟩, kp⟩
  · exact absurd rfl z
/-! what objects name, layer by layer: no code objects, no classes' bases -/
def refs (o : Obj) : List Addr := match o.cls with
  | .type "code" => []
  | _ => match o.data with
    | .seq its _ => its.toList.flatMap He.refV
    | .dict es _ => es.toList.flatMap fun e => He.refV e.val
    | .func z => He.refV z.code ++ (He.refV z.defaults ++ He.refV z.kwdefaults)
    | .cls c => [c.ns]
    | .fields vs => vs.toList.flatMap He.refV
    | _ => []
def nxt (g : Addr → Option Obj) (l : List Addr) : List Addr := l.flatMap fun a => match g a with
  | some o => refs o
  | none => []
def layers (g : Addr → Option Obj) : Nat → List Addr → List Addr
  | 0, l => l
  | n + 1, l => l ++ layers g n (nxt g l)
def part (n : Nat) (g : Addr → Option Obj) : PySem.W.Frag := He.frG g (layers g n [mainGlobals])
/-- the part, its spine and addresses computed ahead of what follows -/
def pin {α : Type} : PySem.W.Frag → (PySem.W.Frag → α) → α
  | [], k => k []
  | (a, o) :: r, k => HandSHeadRun.frNat a fun a => pin r fun r => k ((a, o) :: r)
theorem pin_eq {α : Type} : ∀ (l : PySem.W.Frag) (k : PySem.W.Frag → α), pin l k = k l
  | [], _ => rfl
  | (a, o) :: r, k => by
    show HandSHeadRun.frNat a (fun a => pin r fun r => k ((a, o) :: r)) = _
    rw [HandSHeadRun.frNat_eq, pin_eq r]
abbrev Al : Type := Bool × List He.FnW × List (Option (List (Option (Str × Int))))
def tell (fn : List Df) (ts : List He.Tab) (ex : PySem.W.Frag → Bool) (K : PySem.W.Frag) : Al := (ex K && fn.all fun d => d.good K, fn.map fun d => d.see K, ts.map fun t => He.dicW K (t.1 K))
def told (fn : List Df) (ts : List He.Tab) (w : World) : Al := (true, fn.map Df.due, ts.map fun t => some (He.keysIn w.params t.2))
def hook (n : Nat) (fn : List Df) (ts : List He.Tab) (ex : PySem.W.Frag → Bool) : PySem.W.Hook where
  α := Al
  obs := fun s => tell fn ts ex (part n s.heap.get?)
  val := fun w => told fn ts w
  says := fun w h => ∃ K : PySem.W.Frag, K.In h ∧ tell fn ts ex K = told fn ts w
  of := fun _ _ e => ⟨_, He.frG_in, e⟩
  keeps := fun _ _ _ ⟨K, hK, c⟩ k => ⟨K, PySem.W.Frag.In.keeps hK k, c⟩
def ob (n : Nat) (fn : List Df) (ts : List He.Tab) (ex : PySem.W.Frag → Bool) (s : PySem.W.SharedT) : Al := pin (part n (HandSHeadRun.getT s)) (tell fn ts ex)
theorem ob_eq {n : Nat} {fn : List Df} {ts : List He.Tab} {ex : PySem.W.Frag → Bool} (s : PySem.W.SharedT) : ob n fn ts ex s = (hook n fn ts ex).obs s.abs := by
  have e : HandSHeadRun.getT s = s.abs.heap.get? := funext (HandSHeadRun.getT_eq s)
  unfold ob
  rw [pin_eq, e]
  rfl
section
variable {fn : List Df} {ts : List He.Tab} {ex : PySem.W.Frag → Bool} {w : World} {K : PySem.W.Frag}
theorem exOf (c : tell fn ts ex K = told fn ts w) : ex K = true := (He.ba (congrArg (fun z : Al => z.1) c)).1
theorem fnOf (c : tell fn ts ex K = told fn ts w) (i : Nat) {d : Df} (h : fn[i]? = some d) : ∃ fd, FunD K d.nm d.ql (defArgs d.st) (defBody d.st) (defScope d.st) d.dv d.kw (d.ad K) fd := by
  have c2 := (He.ba (show (ex K && fn.all fun d => d.good K) = true from congrArg (fun z : Al => z.1) c)).2
  have e : fn.map (fun d => d.see K) = fn.map Df.due := congrArg (fun z : Al => z.2.1) c
  have e2 := congrArg (fun l : List He.FnW => l[i]?) e
  simp only [List.getElem?_map, h, Option.map_some, Option.some.injEq] at e2
  exact Df.fn e2 (List.all_eq_true.mp c2 d (List.mem_of_getElem? h))
theorem tabOf (c : tell fn ts ex K = told fn ts w) (i : Nat) {t : He.Tab} (h : ts[i]? = some t) : ∃ es n, KDict K w (t.1 K) es n := by
  have e : ts.map (fun t => He.dicW K (t.1 K)) = ts.map fun t => some (He.keysIn w.params t.2) := congrArg (fun z : Al => z.2.2) c
  have e2 := congrArg (fun l : List (Option (List (Option (Str × Int)))) => l[i]?) e
  simp only [List.getElem?_map, h, Option.map_some, Option.some.injEq] at e2
  exact He.dicW_ok e2
end
/-! addresses and values off what is looked at -/
def adr (o : Option (Option Value)) : Addr := match o with
  | some (some (.ref a)) => a
  | _ => 0
def opt (o : Option (Option Value)) : Option Value := match o with
  | some v => v
  | none => none
def tok (o : Option (Option Value)) : Tok := match o with
  | some (some (.int _ t)) => t
  | some (some (.str _ t)) => t
  | _ => 0
def rec1 (o : Option (List Value)) : Addr := match o with
  | some (.ref a :: _) => a
  | _ => 0
def recR (o : Option (List Value)) : List Value := match o with
  | some (_ :: r) => r
  | _ => []
def stA (o : Option PySem.W.CFound) : Addr := match o with
  | some (.get _ (.ref a) _ _) => a
  | _ => 0
def stB (o : Option PySem.W.CFound) (C : Addr) : Bool := match o with
  | some (.get (.builtin b) (.ref _) .none (.ref c)) => decide (b = "staticmethod.__get__") && decide (c = C)
  | _ => false
theorem stB_ok {o : Option PySem.W.CFound} {C : Addr} (h : stB o C = true) : o = some (.get (.builtin "staticmethod.__get__") (.ref (stA o)) .none (.ref C)) := by
  unfold stB at h
  split at h
  · obtain ⟨h1, h2⟩ := He.ba h
    rw [of_decide_eq_true h1, of_decide_eq_true h2]
    rfl
  · cases h
def tupB (K : PySem.W.Frag) (a : Addr) (vs : List V) : Bool := match K.lookup a with
  | some ⟨.type c, _, .seq its _, _⟩ => decide (c = "tuple") && (decide (its.size ≤ sizeLine) && He.relAll vs its.toList)
  | _ => false
theorem tupB_ok {K : PySem.W.Frag} {a : Addr} {vs : List V} (h : tupB K a vs = true) : ∀ H : Hp, SqT K H a vs := by
  intro H
  unfold tupB at h
  split at h
  · rename_i c d its n sl e
    obtain ⟨h1, h2⟩ := He.ba h
    obtain ⟨h3, h4⟩ := He.ba h2
    exact .inr ⟨_, its, n, e, congrArg Value.type (of_decide_eq_true h1), rfl, of_decide_eq_true h3, He.relAll_ok h4⟩
  · cases h
def noR (o : Option Value) : Bool := match o with
  | none => true
  | some (.ref _) => true
  | _ => false
theorem noR_ok {o : Option Value} (h : noR o = true) : o = none ∨ ∃ g : Addr, o = some (.ref g) := by
  unfold noR at h
  split at h
  · exact .inl rfl
  · exact .inr ⟨_, rfl⟩
  · cases h
end Hd

namespace Pk56
open PySem L2
def top (i : Nat) : Stmt := PySem.Challenge.pw_ringindexes_k56_logs_beside_slots.main.body.getD i (.Pass ⟨0, 0, 0, 0⟩)
abbrev s_has_outside : Stmt := top 11
abbrev s_is_whole : Stmt := top 14
abbrev s_is_whole_from : Stmt := top 15
abbrev s_is_word_of : Stmt := top 16
abbrev s_is_size : Stmt := top 17
abbrev s_check_size : Stmt := top 18
abbrev s_Formu__initu_ : Stmt := inClass (top 22) 0
abbrev s_form_at : Stmt := top 23
abbrev s_Scheme_wrap : Stmt := inClass (top 50) 1
abbrev s_wrap_at : Stmt := top 33
abbrev s_modulus_of : Stmt := top 32
abbrev s_Scheme_slot : Stmt := inClass (top 50) 3
abbrev s_Scheme_when : Stmt := inClass (top 50) 9
abbrev s_log_modulus : Stmt := top 37
abbrev s_Logu__initu_ : Stmt := inClass (top 36) 0
abbrev s_check_lag : Stmt := top 38
abbrev s_Logu__iaddu_ : Stmt := inClass (top 36) 1
abbrev s_Log_put_count : Stmt := inClass (top 36) 2
abbrev s_Log_held : Stmt := inClass (top 36) 3
abbrev s_Logu__getitemu_ : Stmt := inClass (top 36) 4
abbrev s_is_small_form : Stmt := top 55
abbrev s_is_full : Stmt := top 56
abbrev s_is_wrap : Stmt := top 54
abbrev s_is_part : Stmt := top 53
abbrev s_first_wrong : Stmt := top 52
abbrev s_Schemeu__initu_ : Stmt := inClass (top 50) 0
abbrev s_l_mixed : Stmt := top 64
abbrev s_l_pool : Stmt := top 65
abbrev s_l_draw : Stmt := top 66
abbrev s_l_wide : Stmt := top 67
abbrev s_l_made : Stmt := top 68
abbrev s_l_power : Stmt := top 70
abbrev s_l_setting : Stmt := top 69
abbrev s_l_slot_is : Stmt := top 71
abbrev s_l_refuses : Stmt := top 72
abbrev s_l_no_number : Stmt := top 73
abbrev s_law : Stmt := top 74
theorem q_parts_put_count : ¬ (("_parts" : Str) = "_put_count") := by decide +kernel
theorem q_parts_base : ¬ (("_parts" : Str) = "base") := by decide +kernel
theorem q_parts_modulus : ¬ (("_parts" : Str) = "modulus") := by decide +kernel
theorem q_parts_size : ¬ (("_parts" : Str) = "size") := by decide +kernel
theorem q_parts_slope : ¬ (("_parts" : Str) = "slope") := by decide +kernel
theorem q_put_count_parts : ¬ (("_put_count" : Str) = "_parts") := by decide +kernel
theorem q_put_count_base : ¬ (("_put_count" : Str) = "base") := by decide +kernel
theorem q_put_count_modulus : ¬ (("_put_count" : Str) = "modulus") := by decide +kernel
theorem q_put_count_size : ¬ (("_put_count" : Str) = "size") := by decide +kernel
theorem q_put_count_slope : ¬ (("_put_count" : Str) = "slope") := by decide +kernel
theorem q_base_parts : ¬ (("base" : Str) = "_parts") := by decide +kernel
theorem q_base_put_count : ¬ (("base" : Str) = "_put_count") := by decide +kernel
theorem q_base_modulus : ¬ (("base" : Str) = "modulus") := by decide +kernel
theorem q_base_size : ¬ (("base" : Str) = "size") := by decide +kernel
theorem q_base_slope : ¬ (("base" : Str) = "slope") := by decide +kernel
theorem q_modulus_parts : ¬ (("modulus" : Str) = "_parts") := by decide +kernel
theorem q_modulus_put_count : ¬ (("modulus" : Str) = "_put_count") := by decide +kernel
theorem q_modulus_base : ¬ (("modulus" : Str) = "base") := by decide +kernel
theorem q_modulus_size : ¬ (("modulus" : Str) = "size") := by decide +kernel
theorem q_modulus_slope : ¬ (("modulus" : Str) = "slope") := by decide +kernel
theorem q_size_parts : ¬ (("size" : Str) = "_parts") := by decide +kernel
theorem q_size_put_count : ¬ (("size" : Str) = "_put_count") := by decide +kernel
theorem q_size_base : ¬ (("size" : Str) = "base") := by decide +kernel
theorem q_size_modulus : ¬ (("size" : Str) = "modulus") := by decide +kernel
theorem q_size_slope : ¬ (("size" : Str) = "slope") := by decide +kernel
theorem q_slope_parts : ¬ (("slope" : Str) = "_parts") := by decide +kernel
theorem q_slope_put_count : ¬ (("slope" : Str) = "_put_count") := by decide +kernel
theorem q_slope_base : ¬ (("slope" : Str) = "base") := by decide +kernel
theorem q_slope_modulus : ¬ (("slope" : Str) = "modulus") := by decide +kernel
theorem q_slope_size : ¬ (("slope" : Str) = "size") := by decide +kernel
local macro_rules | `(tactic| walk_at "lk") => `(tactic| first | with_unfolding_all rfl | (simp only [List.lookup, L2.putF, beq_iff_eq, beq_self_eq_true, q_parts_put_count, (beq_eq_false_iff_ne.mpr q_parts_put_count), q_parts_base, (beq_eq_false_iff_ne.mpr q_parts_base), q_parts_modulus, (beq_eq_false_iff_ne.mpr q_parts_modulus), q_parts_size, (beq_eq_false_iff_ne.mpr q_parts_size), q_parts_slope, (beq_eq_false_iff_ne.mpr q_parts_slope), q_put_count_parts, (beq_eq_false_iff_ne.mpr q_put_count_parts), q_put_count_base, (beq_eq_false_iff_ne.mpr q_put_count_base), q_put_count_modulus, (beq_eq_false_iff_ne.mpr q_put_count_modulus), q_put_count_size, (beq_eq_false_iff_ne.mpr q_put_count_size), q_put_count_slope, (beq_eq_false_iff_ne.mpr q_put_count_slope), q_base_parts, (beq_eq_false_iff_ne.mpr q_base_parts), q_base_put_count, (beq_eq_false_iff_ne.mpr q_base_put_count), q_base_modulus, (beq_eq_false_iff_ne.mpr q_base_modulus), q_base_size, (beq_eq_false_iff_ne.mpr q_base_size), q_base_slope, (beq_eq_false_iff_ne.mpr q_base_slope), q_modulus_parts, (beq_eq_false_iff_ne.mpr q_modulus_parts), q_modulus_put_count, (beq_eq_false_iff_ne.mpr q_modulus_put_count), q_modulus_base, (beq_eq_false_iff_ne.mpr q_modulus_base), q_modulus_size, (beq_eq_false_iff_ne.mpr q_modulus_size), q_modulus_slope, (beq_eq_false_iff_ne.mpr q_modulus_slope), q_size_parts, (beq_eq_false_iff_ne.mpr q_size_parts), q_size_put_count, (beq_eq_false_iff_ne.mpr q_size_put_count), q_size_base, (beq_eq_false_iff_ne.mpr q_size_base), q_size_modulus, (beq_eq_false_iff_ne.mpr q_size_modulus), q_size_slope, (beq_eq_false_iff_ne.mpr q_size_slope), q_slope_parts, (beq_eq_false_iff_ne.mpr q_slope_parts), q_slope_put_count, (beq_eq_false_iff_ne.mpr q_slope_put_count), q_slope_base, (beq_eq_false_iff_ne.mpr q_slope_base), q_slope_modulus, (beq_eq_false_iff_ne.mpr q_slope_modulus), q_slope_size, (beq_eq_false_iff_ne.mpr q_slope_size)]; first | done | rfl))
structure Adr where
  f_has_outside : Addr
  d_has_outside : FuncData
  f_is_whole : Addr
  d_is_whole : FuncData
  f_is_whole_from : Addr
  d_is_whole_from : FuncData
  f_is_word_of : Addr
  d_is_word_of : FuncData
  f_is_size : Addr
  d_is_size : FuncData
  f_check_size : Addr
  d_check_size : FuncData
  f_Formu__initu_ : Addr
  d_Formu__initu_ : FuncData
  f_form_at : Addr
  d_form_at : FuncData
  f_Scheme_wrap : Addr
  d_Scheme_wrap : FuncData
  f_wrap_at : Addr
  d_wrap_at : FuncData
  f_modulus_of : Addr
  d_modulus_of : FuncData
  f_Scheme_slot : Addr
  d_Scheme_slot : FuncData
  f_Scheme_when : Addr
  d_Scheme_when : FuncData
  f_log_modulus : Addr
  d_log_modulus : FuncData
  f_Logu__initu_ : Addr
  d_Logu__initu_ : FuncData
  f_check_lag : Addr
  d_check_lag : FuncData
  f_Logu__iaddu_ : Addr
  d_Logu__iaddu_ : FuncData
  f_Log_put_count : Addr
  d_Log_put_count : FuncData
  f_Log_held : Addr
  d_Log_held : FuncData
  f_Logu__getitemu_ : Addr
  d_Logu__getitemu_ : FuncData
  f_is_small_form : Addr
  d_is_small_form : FuncData
  f_is_full : Addr
  d_is_full : FuncData
  f_is_wrap : Addr
  d_is_wrap : FuncData
  f_is_part : Addr
  d_is_part : FuncData
  f_first_wrong : Addr
  d_first_wrong : FuncData
  f_Schemeu__initu_ : Addr
  d_Schemeu__initu_ : FuncData
  f_l_mixed : Addr
  d_l_mixed : FuncData
  f_l_pool : Addr
  d_l_pool : FuncData
  f_l_draw : Addr
  d_l_draw : FuncData
  f_l_wide : Addr
  d_l_wide : FuncData
  f_l_made : Addr
  d_l_made : FuncData
  f_l_power : Addr
  d_l_power : FuncData
  f_l_setting : Addr
  d_l_setting : FuncData
  f_l_slot_is : Addr
  d_l_slot_is : FuncData
  f_l_refuses : Addr
  d_l_refuses : FuncData
  f_l_no_number : Addr
  d_l_no_number : FuncData
  f_law : Addr
  d_law : FuncData
  c_Form : Addr
  c_Scheme : Addr
  c_RingError : Addr
  c_Log : Addr
  c_NoSize : Addr
  c_NoRing : Addr
  c_NotDecided : Addr
  c_NoLag : Addr
  c_Outside : Addr
  p_Scheme_wrap : Addr
  p_Scheme_slot : Addr
  p_Scheme_when : Addr
  p_Log_put_count : Addr
  p_Log_held : Addr
  t_GREATEST_SIZE : Tok
  t_PART_NAMES : Addr
  t_PART_WORDS : Addr
  t_PART_WORDS_slot : Addr
  t_PART_WORDS_empty : Addr
  t_PART_WORDS_when : Addr
  t_MEASURES : Addr
  t_SIGNS : Addr
  t_PLAIN_FULLS : Addr
  t_GREATEST_SLOPE : Tok
  t_GREATEST_BASE : Tok
  t_GREATEST_WIDTH : Tok
  t_GREATEST_LAG : Tok
structure IsC (K : PySem.W.Frag) (C : Addr) : Prop where
  ha : PySem.W.findIn K (.ref C) "__class__" = some (some (.builtin "object.__class__"))
  hn : PySem.W.specialIn K (.builtin "object.__class__") "__get__" = some (some (.builtin "getset_descriptor.__get__"))
  htk : PySem.W.takesIn K (.builtin "object.__class__") = some true
  hm : PySem.W.mroIn K C (.type "object") = some true
theorem ty_own {K : PySem.W.Frag} {H : Hp} {a C dx : Addr} {fs : List (Str × V)} (e : H a = some (.ins C dx fs)) (k : Cls K C) (i : IsC K C) : TyX K H (.ref a) (.ref C) := .base (.ins e k i.ha i.hn i.htk i.hm)
local macro_rules | `(tactic| walk_at "tyx") => `(tactic| first | ((with_reducible apply ty_own); (· walk_at "hp"); (· with_reducible assumption); (· with_reducible assumption)) | fail "tyx")
abbrev R : PySem.W.OpenRow := PySem.W.OpenLaw.row PySem.Challenge.rw_ringindexes_k56_logs_beside_slots
abbrev Px0 (K : PySem.W.Frag) : Prop := (PySem.W.nsIn K mainGlobals "abs" = some none) ∧ (PySem.W.nsIn K mainGlobals "bool" = some none) ∧ (PySem.W.nsIn K mainGlobals "int" = some none) ∧ (PySem.W.nsIn K mainGlobals "isinstance" = some none) ∧ (PySem.W.nsIn K mainGlobals "len" = some none) ∧ (PySem.W.nsIn K mainGlobals "max" = some none) ∧ (PySem.W.nsIn K mainGlobals "min" = some none) ∧ (PySem.W.nsIn K mainGlobals "range" = some none) ∧ (PySem.W.nsIn K mainGlobals "str" = some none) ∧ (PySem.W.nsIn K mainGlobals "tuple" = some none) ∧ (PySem.W.nsIn K mainGlobals "GREATEST_SIZE" = some (some (.int (1000000000000000000000000000000) (Hd.tok (PySem.W.nsIn K mainGlobals "GREATEST_SIZE"))))) ∧ (PySem.W.nsIn K mainGlobals "PART_NAMES" = some (some (.ref (He.ga K "PART_NAMES"))))
abbrev Px1 (K : PySem.W.Frag) : Prop := (PySem.W.nsIn K mainGlobals "PART_WORDS" = some (some (.ref (He.ga K "PART_WORDS")))) ∧ (PySem.W.nsIn K mainGlobals "MEASURES" = some (some (.ref (He.ga K "MEASURES")))) ∧ (PySem.W.nsIn K mainGlobals "SIGNS" = some (some (.ref (He.ga K "SIGNS")))) ∧ (PySem.W.nsIn K mainGlobals "PLAIN_FULLS" = some (some (.ref (He.ga K "PLAIN_FULLS")))) ∧ (PySem.W.nsIn K mainGlobals "GREATEST_SLOPE" = some (some (.int (4) (Hd.tok (PySem.W.nsIn K mainGlobals "GREATEST_SLOPE"))))) ∧ (PySem.W.nsIn K mainGlobals "GREATEST_BASE" = some (some (.int (20) (Hd.tok (PySem.W.nsIn K mainGlobals "GREATEST_BASE"))))) ∧ (PySem.W.nsIn K mainGlobals "GREATEST_WIDTH" = some (some (.int (100) (Hd.tok (PySem.W.nsIn K mainGlobals "GREATEST_WIDTH"))))) ∧ (PySem.W.nsIn K mainGlobals "GREATEST_LAG" = some (some (.int (10000000000000000000000000000000000000000) (Hd.tok (PySem.W.nsIn K mainGlobals "GREATEST_LAG"))))) ∧ (PySem.W.nsIn K mainGlobals "NoSize" = some (some (.ref (He.ga K "NoSize")))) ∧ (PySem.W.nsIn K mainGlobals "NoRing" = some (some (.ref (He.ga K "NoRing")))) ∧ (PySem.W.nsIn K mainGlobals "NotDecided" = some (some (.ref (He.ga K "NotDecided")))) ∧ (PySem.W.nsIn K mainGlobals "NoLag" = some (some (.ref (He.ga K "NoLag"))))
abbrev Px2 (K : PySem.W.Frag) : Prop := (PySem.W.nsIn K mainGlobals "Outside" = some (some (.ref (He.ga K "Outside")))) ∧ (PySem.W.nsIn K mainGlobals "Form" = some (some (.ref (He.ga K "Form")))) ∧ (PySem.W.findIn K (.ref (He.ga K "Form")) "slope" = some none) ∧ (PySem.W.findIn K (.ref (He.ga K "Form")) "base" = some none) ∧ (PySem.W.nsIn K mainGlobals "Scheme" = some (some (.ref (He.ga K "Scheme")))) ∧ (PySem.W.findIn K (.ref (He.ga K "Scheme")) "_parts" = some none) ∧ (PySem.W.nsIn K mainGlobals "RingError" = some (some (.ref (He.ga K "RingError")))) ∧ (PySem.W.nsIn K mainGlobals "Log" = some (some (.ref (He.ga K "Log")))) ∧ (PySem.W.findIn K (.ref (He.ga K "Log")) "modulus" = some none) ∧ (PySem.W.findIn K (.ref (He.ga K "Log")) "size" = some none) ∧ (PySem.W.findIn K (.ref (He.ga K "Log")) "_put_count" = some none) ∧ (PySem.W.nsIn K mainGlobals "has_outside" = some (some (.ref (He.ga K "has_outside"))))
abbrev Px3 (K : PySem.W.Frag) : Prop := (PySem.W.nsIn K mainGlobals "is_whole" = some (some (.ref (He.ga K "is_whole")))) ∧ (PySem.W.nsIn K mainGlobals "is_whole_from" = some (some (.ref (He.ga K "is_whole_from")))) ∧ (PySem.W.nsIn K mainGlobals "is_word_of" = some (some (.ref (He.ga K "is_word_of")))) ∧ (PySem.W.nsIn K mainGlobals "is_size" = some (some (.ref (He.ga K "is_size")))) ∧ (PySem.W.nsIn K mainGlobals "check_size" = some (some (.ref (He.ga K "check_size")))) ∧ (PySem.W.nsIn K mainGlobals "form_at" = some (some (.ref (He.ga K "form_at")))) ∧ (PySem.W.nsIn K mainGlobals "wrap_at" = some (some (.ref (He.ga K "wrap_at")))) ∧ (PySem.W.nsIn K mainGlobals "modulus_of" = some (some (.ref (He.ga K "modulus_of")))) ∧ (PySem.W.nsIn K mainGlobals "log_modulus" = some (some (.ref (He.ga K "log_modulus")))) ∧ (PySem.W.nsIn K mainGlobals "check_lag" = some (some (.ref (He.ga K "check_lag")))) ∧ (PySem.W.nsIn K mainGlobals "is_small_form" = some (some (.ref (He.ga K "is_small_form")))) ∧ (PySem.W.nsIn K mainGlobals "is_full" = some (some (.ref (He.ga K "is_full"))))
abbrev Px4 (K : PySem.W.Frag) : Prop := (PySem.W.nsIn K mainGlobals "is_wrap" = some (some (.ref (He.ga K "is_wrap")))) ∧ (PySem.W.nsIn K mainGlobals "is_part" = some (some (.ref (He.ga K "is_part")))) ∧ (PySem.W.nsIn K mainGlobals "first_wrong" = some (some (.ref (He.ga K "first_wrong")))) ∧ (PySem.W.nsIn K mainGlobals "_law_mixed" = some (some (.ref (He.ga K "_law_mixed")))) ∧ (PySem.W.nsIn K mainGlobals "_law_pool" = some (some (.ref (He.ga K "_law_pool")))) ∧ (PySem.W.nsIn K mainGlobals "_law_draw" = some (some (.ref (He.ga K "_law_draw")))) ∧ (PySem.W.nsIn K mainGlobals "_law_wide" = some (some (.ref (He.ga K "_law_wide")))) ∧ (PySem.W.nsIn K mainGlobals "_law_made" = some (some (.ref (He.ga K "_law_made")))) ∧ (PySem.W.nsIn K mainGlobals "_law_power" = some (some (.ref (He.ga K "_law_power")))) ∧ (PySem.W.nsIn K mainGlobals "_law_setting" = some (some (.ref (He.ga K "_law_setting")))) ∧ (PySem.W.nsIn K mainGlobals "_law_slot_is" = some (some (.ref (He.ga K "_law_slot_is")))) ∧ (PySem.W.nsIn K mainGlobals "_law_refuses" = some (some (.ref (He.ga K "_law_refuses"))))
abbrev Px5 (K : PySem.W.Frag) : Prop := (PySem.W.nsIn K mainGlobals "_law_no_number" = some (some (.ref (He.ga K "_law_no_number")))) ∧ (PySem.W.nsIn K mainGlobals "law" = some (some (.ref (He.ga K "law")))) ∧ (PySem.W.findIn K (.ref (He.ga K "Form")) "__init__" = some (some (.ref (He.ma K (He.ga K "Form") "__init__")))) ∧ (PySem.W.findIn K (.ref (He.ga K "Scheme")) "__init__" = some (some (.ref (He.ma K (He.ga K "Scheme") "__init__")))) ∧ (PySem.W.findIn K (.ref (He.ga K "Log")) "__init__" = some (some (.ref (He.ma K (He.ga K "Log") "__init__")))) ∧ (PySem.W.findIn K (.ref (He.ga K "Scheme")) "wrap" = some (some (.ref (He.ma K (He.ga K "Scheme") "wrap")))) ∧ (PySem.W.findIn K (.ref (He.ga K "Scheme")) "slot" = some (some (.ref (He.ma K (He.ga K "Scheme") "slot")))) ∧ (PySem.W.findIn K (.ref (He.ga K "Scheme")) "when" = some (some (.ref (He.ma K (He.ga K "Scheme") "when")))) ∧ (PySem.W.findIn K (.ref (He.ga K "Log")) (dunderI (Operator.info .Add).2) = some (some (.ref (He.ma K (He.ga K "Log") "__iadd__")))) ∧ (PySem.W.findIn K (.ref (He.ga K "Log")) "put_count" = some (some (.ref (He.ma K (He.ga K "Log") "put_count")))) ∧ (PySem.W.findIn K (.ref (He.ga K "Log")) "held" = some (some (.ref (He.ma K (He.ga K "Log") "held")))) ∧ (PySem.W.findIn K (.ref (He.ga K "Log")) "__getitem__" = some (some (.ref (He.ma K (He.ga K "Log") "__getitem__"))))
abbrev Px6 (K : PySem.W.Frag) : Prop := (PySem.W.nsIn K (He.ga K "PART_WORDS") "slot" = some (some (.ref (Hd.adr (PySem.W.nsIn K (He.ga K "PART_WORDS") "slot"))))) ∧ (PySem.W.nsIn K (He.ga K "PART_WORDS") "empty" = some (some (.ref (Hd.adr (PySem.W.nsIn K (He.ga K "PART_WORDS") "empty"))))) ∧ (PySem.W.nsIn K (He.ga K "PART_WORDS") "when" = some (some (.ref (Hd.adr (PySem.W.nsIn K (He.ga K "PART_WORDS") "when"))))) ∧ (PySem.W.recIn K (He.ma K (He.ga K "Scheme") "wrap") "property" = some (.ref (Hd.rec1 (PySem.W.recIn K (He.ma K (He.ga K "Scheme") "wrap") "property")) :: (Hd.recR (PySem.W.recIn K (He.ma K (He.ga K "Scheme") "wrap") "property")))) ∧ (PySem.W.recIn K (He.ma K (He.ga K "Scheme") "slot") "property" = some (.ref (Hd.rec1 (PySem.W.recIn K (He.ma K (He.ga K "Scheme") "slot") "property")) :: (Hd.recR (PySem.W.recIn K (He.ma K (He.ga K "Scheme") "slot") "property")))) ∧ (PySem.W.recIn K (He.ma K (He.ga K "Scheme") "when") "property" = some (.ref (Hd.rec1 (PySem.W.recIn K (He.ma K (He.ga K "Scheme") "when") "property")) :: (Hd.recR (PySem.W.recIn K (He.ma K (He.ga K "Scheme") "when") "property")))) ∧ (PySem.W.recIn K (He.ma K (He.ga K "Log") "put_count") "property" = some (.ref (Hd.rec1 (PySem.W.recIn K (He.ma K (He.ga K "Log") "put_count") "property")) :: (Hd.recR (PySem.W.recIn K (He.ma K (He.ga K "Log") "put_count") "property")))) ∧ (PySem.W.recIn K (He.ma K (He.ga K "Log") "held") "property" = some (.ref (Hd.rec1 (PySem.W.recIn K (He.ma K (He.ga K "Log") "held") "property")) :: (Hd.recR (PySem.W.recIn K (He.ma K (He.ga K "Log") "held") "property")))) ∧ (Hd.tupB K (He.ga K "PART_NAMES") [.str "wrap", .str "slot", .str "empty", .str "full", .str "when"] = true) ∧ (Hd.tupB K (Hd.adr (PySem.W.nsIn K (He.ga K "PART_WORDS") "slot")) [.str "rest", .str "off", .str "mask"] = true) ∧ (Hd.tupB K (Hd.adr (PySem.W.nsIn K (He.ga K "PART_WORDS") "empty")) [.str "same", .str "count", .str "note"] = true) ∧ (Hd.tupB K (Hd.adr (PySem.W.nsIn K (He.ga K "PART_WORDS") "when")) [.str "refuse", .str "drop", .str "over"] = true)
abbrev Px7 (K : PySem.W.Frag) : Prop := (Hd.tupB K (He.ga K "MEASURES") [.str "diff", .str "count"] = true) ∧ (Hd.tupB K (He.ga K "SIGNS") [.str "=", .str ">="] = true) ∧ (Hd.tupB K (He.ga K "PLAIN_FULLS") [.str "next", .str "note"] = true) ∧ (PySem.W.excIn K (He.ga K "NoSize") [.type "ValueError", .type "Exception", .type "BaseException", .type "object"] "ValueError.__new__" = true) ∧ (PySem.W.keepIn K (.ref (He.ga K "NoSize")) = true) ∧ (PySem.W.subIn K (.ref (He.ga K "NoSize")) (.type "BaseException") = some true) ∧ (PySem.W.typeIn K (.ref (He.ga K "NoSize")) = some (.type "type")) ∧ (PySem.W.excIn K (He.ga K "NoRing") [.type "ValueError", .type "Exception", .type "BaseException", .type "object"] "ValueError.__new__" = true) ∧ (PySem.W.keepIn K (.ref (He.ga K "NoRing")) = true) ∧ (PySem.W.subIn K (.ref (He.ga K "NoRing")) (.type "BaseException") = some true) ∧ (PySem.W.typeIn K (.ref (He.ga K "NoRing")) = some (.type "type")) ∧ (PySem.W.excIn K (He.ga K "NotDecided") [.type "ValueError", .type "Exception", .type "BaseException", .type "object"] "ValueError.__new__" = true)
abbrev Px8 (K : PySem.W.Frag) : Prop := (PySem.W.keepIn K (.ref (He.ga K "NotDecided")) = true) ∧ (PySem.W.subIn K (.ref (He.ga K "NotDecided")) (.type "BaseException") = some true) ∧ (PySem.W.typeIn K (.ref (He.ga K "NotDecided")) = some (.type "type")) ∧ (PySem.W.excIn K (He.ga K "NoLag") [.type "ValueError", .type "Exception", .type "BaseException", .type "object"] "ValueError.__new__" = true) ∧ (PySem.W.keepIn K (.ref (He.ga K "NoLag")) = true) ∧ (PySem.W.subIn K (.ref (He.ga K "NoLag")) (.type "BaseException") = some true) ∧ (PySem.W.typeIn K (.ref (He.ga K "NoLag")) = some (.type "type")) ∧ (PySem.W.excIn K (He.ga K "Outside") [.type "ValueError", .type "Exception", .type "BaseException", .type "object"] "ValueError.__new__" = true) ∧ (PySem.W.keepIn K (.ref (He.ga K "Outside")) = true) ∧ (PySem.W.subIn K (.ref (He.ga K "Outside")) (.type "BaseException") = some true) ∧ (PySem.W.typeIn K (.ref (He.ga K "Outside")) = some (.type "type")) ∧ (PySem.W.plainGet K (He.ga K "Form") Str.empty = true)
abbrev Px9 (K : PySem.W.Frag) : Prop := (PySem.W.hasDictIn K (He.ga K "Form") = true) ∧ (PySem.W.plainOver K (He.ga K "Form") = true) ∧ (PySem.W.findIn K (.ref (He.ga K "Form")) "__setattr__" = some (some (.builtin "object.__setattr__"))) ∧ (PySem.W.makesIn K (He.ga K "Form") = true) ∧ (PySem.W.isFn K (.ref (He.ma K (He.ga K "Form") "__init__")) = true) ∧ (PySem.W.keepIn K (.ref (He.ga K "Form")) = true) ∧ (PySem.W.findIn K (.ref (He.ga K "Form")) "__class__" = some (some (.builtin "object.__class__"))) ∧ (PySem.W.mroIn K (He.ga K "Form") (.type "object") = some true) ∧ (PySem.W.specialIn K (.builtin "object.__class__") "__get__" = some (some (.builtin "getset_descriptor.__get__"))) ∧ (PySem.W.takesIn K (.builtin "object.__class__") = some true) ∧ (PySem.W.kitOne K (.ref (He.ga K "Form")) (.ref (He.ga K "Form")) = some true) ∧ (PySem.W.kitOne K (.type "int") (.ref (He.ga K "Form")) = some false)
abbrev Px10 (K : PySem.W.Frag) : Prop := (PySem.W.plainGet K (He.ga K "Scheme") Str.empty = true) ∧ (PySem.W.hasDictIn K (He.ga K "Scheme") = true) ∧ (PySem.W.plainOver K (He.ga K "Scheme") = true) ∧ (PySem.W.findIn K (.ref (He.ga K "Scheme")) "__setattr__" = some (some (.builtin "object.__setattr__"))) ∧ (PySem.W.makesIn K (He.ga K "Scheme") = true) ∧ (PySem.W.isFn K (.ref (He.ma K (He.ga K "Scheme") "__init__")) = true) ∧ (PySem.W.keepIn K (.ref (He.ga K "Scheme")) = true) ∧ (PySem.W.plainGet K (He.ga K "Log") Str.empty = true) ∧ (PySem.W.hasDictIn K (He.ga K "Log") = true) ∧ (PySem.W.plainOver K (He.ga K "Log") = true) ∧ (PySem.W.findIn K (.ref (He.ga K "Log")) "__setattr__" = some (some (.builtin "object.__setattr__"))) ∧ (PySem.W.makesIn K (He.ga K "Log") = true)
abbrev Px11 (K : PySem.W.Frag) : Prop := (PySem.W.isFn K (.ref (He.ma K (He.ga K "Log") "__init__")) = true) ∧ (PySem.W.keepIn K (.ref (He.ga K "Log")) = true) ∧ (PySem.W.specialIn K (.ref (He.ma K (He.ga K "Scheme") "wrap")) "__get__" = some (some (.builtin "property.__get__"))) ∧ (PySem.W.takesIn K (.ref (He.ma K (He.ga K "Scheme") "wrap")) = some true) ∧ (PySem.W.specialIn K (.ref (He.ma K (He.ga K "Scheme") "slot")) "__get__" = some (some (.builtin "property.__get__"))) ∧ (PySem.W.takesIn K (.ref (He.ma K (He.ga K "Scheme") "slot")) = some true) ∧ (PySem.W.specialIn K (.ref (He.ma K (He.ga K "Scheme") "when")) "__get__" = some (some (.builtin "property.__get__"))) ∧ (PySem.W.takesIn K (.ref (He.ma K (He.ga K "Scheme") "when")) = some true) ∧ (PySem.W.selfFirst K (He.ga K "Log") = true) ∧ (PySem.W.isFn K (.ref (He.ma K (He.ga K "Log") "__iadd__")) = true) ∧ (PySem.W.specialIn K (.ref (He.ma K (He.ga K "Log") "put_count")) "__get__" = some (some (.builtin "property.__get__"))) ∧ (PySem.W.takesIn K (.ref (He.ma K (He.ga K "Log") "put_count")) = some true)
abbrev Px12 (K : PySem.W.Frag) : Prop := (PySem.W.specialIn K (.ref (He.ma K (He.ga K "Log") "held")) "__get__" = some (some (.builtin "property.__get__"))) ∧ (PySem.W.takesIn K (.ref (He.ma K (He.ga K "Log") "held")) = some true) ∧ (PySem.W.isFn K (.ref (He.ma K (He.ga K "Log") "__getitem__")) = true) ∧ (PySem.W.fnIn K (He.ma K (He.ga K "Log") "__getitem__") = true) ∧ (PySem.W.notFirst K (He.ga K "Form") (.ref (He.ga K "Form")) = true) ∧ (PySem.W.notFirst K (He.ga K "Form") (.type "int") = true) ∧ (PySem.W.exmOne K (.ref (He.ga K "NoSize")) (.ref (He.ga K "NoSize")) = some true) ∧ (PySem.W.exmOne K (.ref (He.ga K "NoRing")) (.ref (He.ga K "NoSize")) = some false) ∧ (PySem.W.exmOne K (.ref (He.ga K "NoRing")) (.ref (He.ga K "NoRing")) = some true) ∧ (PySem.W.exmOne K (.ref (He.ga K "NotDecided")) (.ref (He.ga K "NoSize")) = some false) ∧ (PySem.W.exmOne K (.ref (He.ga K "NotDecided")) (.ref (He.ga K "NoRing")) = some false) ∧ (PySem.W.exmOne K (.ref (He.ga K "NotDecided")) (.ref (He.ga K "NotDecided")) = some true)
abbrev Px13 (K : PySem.W.Frag) : Prop := (PySem.W.exmOne K (.ref (He.ga K "NoLag")) (.ref (He.ga K "NoSize")) = some false) ∧ (PySem.W.exmOne K (.ref (He.ga K "NoLag")) (.ref (He.ga K "NoRing")) = some false) ∧ (PySem.W.exmOne K (.ref (He.ga K "NoLag")) (.ref (He.ga K "NotDecided")) = some false) ∧ (PySem.W.exmOne K (.ref (He.ga K "NoLag")) (.ref (He.ga K "NoLag")) = some true) ∧ (PySem.W.exmOne K (.ref (He.ga K "Outside")) (.ref (He.ga K "Outside")) = some true)
def exs (K : PySem.W.Frag) : Bool := decide (Px0 K) && (decide (Px1 K) && (decide (Px2 K) && (decide (Px3 K) && (decide (Px4 K) && (decide (Px5 K) && (decide (Px6 K) && (decide (Px7 K) && (decide (Px8 K) && (decide (Px9 K) && (decide (Px10 K) && (decide (Px11 K) && (decide (Px12 K) && (decide (Px13 K) && (true))))))))))))))
def df0 : Hd.Df := ⟨fun K => (He.ga K "has_outside"), "has_outside", "has_outside", s_has_outside, [], []⟩
def df1 : Hd.Df := ⟨fun K => (He.ga K "is_whole"), "is_whole", "is_whole", s_is_whole, [], []⟩
def df2 : Hd.Df := ⟨fun K => (He.ga K "is_whole_from"), "is_whole_from", "is_whole_from", s_is_whole_from, [], []⟩
def df3 : Hd.Df := ⟨fun K => (He.ga K "is_word_of"), "is_word_of", "is_word_of", s_is_word_of, [], []⟩
def df4 : Hd.Df := ⟨fun K => (He.ga K "is_size"), "is_size", "is_size", s_is_size, [], []⟩
def df5 : Hd.Df := ⟨fun K => (He.ga K "check_size"), "check_size", "check_size", s_check_size, [], []⟩
def df6 : Hd.Df := ⟨fun K => (He.ma K (He.ga K "Form") "__init__"), "__init__", "Form.__init__", s_Formu__initu_, [], []⟩
def df7 : Hd.Df := ⟨fun K => (He.ga K "form_at"), "form_at", "form_at", s_form_at, [], []⟩
def df8 : Hd.Df := ⟨fun K => (Hd.rec1 (PySem.W.recIn K (He.ma K (He.ga K "Scheme") "wrap") "property")), "wrap", "Scheme.wrap", s_Scheme_wrap, [], []⟩
def df9 : Hd.Df := ⟨fun K => (He.ga K "wrap_at"), "wrap_at", "wrap_at", s_wrap_at, [], []⟩
def df10 : Hd.Df := ⟨fun K => (He.ga K "modulus_of"), "modulus_of", "modulus_of", s_modulus_of, [], []⟩
def df11 : Hd.Df := ⟨fun K => (Hd.rec1 (PySem.W.recIn K (He.ma K (He.ga K "Scheme") "slot") "property")), "slot", "Scheme.slot", s_Scheme_slot, [], []⟩
def df12 : Hd.Df := ⟨fun K => (Hd.rec1 (PySem.W.recIn K (He.ma K (He.ga K "Scheme") "when") "property")), "when", "Scheme.when", s_Scheme_when, [], []⟩
def df13 : Hd.Df := ⟨fun K => (He.ga K "log_modulus"), "log_modulus", "log_modulus", s_log_modulus, [], []⟩
def df14 : Hd.Df := ⟨fun K => (He.ma K (He.ga K "Log") "__init__"), "__init__", "Log.__init__", s_Logu__initu_, [], []⟩
def df15 : Hd.Df := ⟨fun K => (He.ga K "check_lag"), "check_lag", "check_lag", s_check_lag, [], []⟩
def df16 : Hd.Df := ⟨fun K => (He.ma K (He.ga K "Log") "__iadd__"), "__iadd__", "Log.__iadd__", s_Logu__iaddu_, [], []⟩
def df17 : Hd.Df := ⟨fun K => (Hd.rec1 (PySem.W.recIn K (He.ma K (He.ga K "Log") "put_count") "property")), "put_count", "Log.put_count", s_Log_put_count, [], []⟩
def df18 : Hd.Df := ⟨fun K => (Hd.rec1 (PySem.W.recIn K (He.ma K (He.ga K "Log") "held") "property")), "held", "Log.held", s_Log_held, [], []⟩
def df19 : Hd.Df := ⟨fun K => (He.ma K (He.ga K "Log") "__getitem__"), "__getitem__", "Log.__getitem__", s_Logu__getitemu_, [], []⟩
def df20 : Hd.Df := ⟨fun K => (He.ga K "is_small_form"), "is_small_form", "is_small_form", s_is_small_form, [], []⟩
def df21 : Hd.Df := ⟨fun K => (He.ga K "is_full"), "is_full", "is_full", s_is_full, [], []⟩
def df22 : Hd.Df := ⟨fun K => (He.ga K "is_wrap"), "is_wrap", "is_wrap", s_is_wrap, [], []⟩
def df23 : Hd.Df := ⟨fun K => (He.ga K "is_part"), "is_part", "is_part", s_is_part, [], []⟩
def df24 : Hd.Df := ⟨fun K => (He.ga K "first_wrong"), "first_wrong", "first_wrong", s_first_wrong, [], []⟩
def df25 : Hd.Df := ⟨fun K => (He.ma K (He.ga K "Scheme") "__init__"), "__init__", "Scheme.__init__", s_Schemeu__initu_, [], [("when", .str "refuse")]⟩
def df26 : Hd.Df := ⟨fun K => (He.ga K "_law_mixed"), "_law_mixed", "_law_mixed", s_l_mixed, [], []⟩
def df27 : Hd.Df := ⟨fun K => (He.ga K "_law_pool"), "_law_pool", "_law_pool", s_l_pool, [], []⟩
def df28 : Hd.Df := ⟨fun K => (He.ga K "_law_draw"), "_law_draw", "_law_draw", s_l_draw, [], []⟩
def df29 : Hd.Df := ⟨fun K => (He.ga K "_law_wide"), "_law_wide", "_law_wide", s_l_wide, [], []⟩
def df30 : Hd.Df := ⟨fun K => (He.ga K "_law_made"), "_law_made", "_law_made", s_l_made, [], []⟩
def df31 : Hd.Df := ⟨fun K => (He.ga K "_law_power"), "_law_power", "_law_power", s_l_power, [], []⟩
def df32 : Hd.Df := ⟨fun K => (He.ga K "_law_setting"), "_law_setting", "_law_setting", s_l_setting, [], []⟩
def df33 : Hd.Df := ⟨fun K => (He.ga K "_law_slot_is"), "_law_slot_is", "_law_slot_is", s_l_slot_is, [], []⟩
def df34 : Hd.Df := ⟨fun K => (He.ga K "_law_refuses"), "_law_refuses", "_law_refuses", s_l_refuses, [], []⟩
def df35 : Hd.Df := ⟨fun K => (He.ga K "_law_no_number"), "_law_no_number", "_law_no_number", s_l_no_number, [], []⟩
def df36 : Hd.Df := ⟨fun K => (He.ga K "law"), "law", "law", s_law, [], []⟩
def fns : List Hd.Df := [df0, df1, df2, df3, df4, df5, df6, df7, df8, df9, df10, df11, df12, df13, df14, df15, df16, df17, df18, df19, df20, df21, df22, df23, df24, df25, df26, df27, df28, df29, df30, df31, df32, df33, df34, df35, df36]
def nm0 : List Str := ["_wall", "RingError", "NoForm", "NoSize", "NoRing", "Outside", "NotDecided", "NoLag", "NoScheme", "has_outside", "GREATEST_SIZE", "is_whole", "is_whole_from", "is_word_of", "is_size", "check_size", "read_number", "MOST_DIGITS", "Form", "form_at", "as_form", "place_of", "show_form", "show_slope", "form_of_words", "read_slope", "read_signed", "modulus_of", "wrap_at", "GREATEST_LAG"]
def nm1 : List Str := ["Log", "log_modulus", "check_lag", "PART_NAMES", "PART_WORDS", "MEASURES", "SIGNS", "PLAIN_FULLS", "GREATEST_SLOPE", "GREATEST_BASE", "GREATEST_WIDTH", "WIDTH_HEAD", "TEXT_HEADS", "Scheme", "parts_of", "first_wrong", "is_part", "is_wrap", "is_small_form", "is_full", "show_scheme", "show_wrap", "show_full", "scheme_of_text", "read_wrap", "read_full", "_law_mixed", "_law_pool", "_law_draw", "_law_wide"]
def nm2 : List Str := ["_law_made", "_law_setting", "_law_power", "_law_slot_is", "_law_refuses", "_law_no_number"]
def loose : List Str := nm0 ++ nm1 ++ nm2
def tbs : List He.Tab := [(fun K => He.ga K "PART_WORDS", ["slot", "empty", "when"])]
abbrev hk : PySem.W.Hook := Hd.hook 6 fns tbs exs
def ob (s : PySem.W.SharedT) : Hd.Al := Hd.ob 6 fns tbs exs s
theorem ob_is (s : PySem.W.SharedT) : ob s = hk.obs s.abs := Hd.ob_eq s
theorem run_false (w : World) : HandSHeadRun.RunEq R (PySem.W.view R.prog [74]) hk ob 200000 loose (w.withFollow "special-get-raises" false) := fun os => by kernel_rfl
theorem run_true (w : World) : HandSHeadRun.RunEq R (PySem.W.view R.prog [74]) hk ob 200000 loose (w.withFollow "special-get-raises" true) := fun os => by kernel_rfl
theorem run (w : World) : HandSHeadRun.RunEq R (PySem.W.view R.prog [74]) hk ob 200000 loose w := PySem.W.byRow2 "special-get-raises" (P := fun w => HandSHeadRun.RunEq R (PySem.W.view R.prog [74]) hk ob 200000 loose w) run_false run_true w
structure Txt (w : World) (K : PySem.W.Frag) (mg : Str → Option Value) (A : Adr) : Prop where
  n_abs : mg "abs" = none
  n_bool : mg "bool" = none
  n_int : mg "int" = none
  n_isinstance : mg "isinstance" = none
  n_len : mg "len" = none
  n_max : mg "max" = none
  n_min : mg "min" = none
  n_range : mg "range" = none
  n_str : mg "str" = none
  n_tuple : mg "tuple" = none
  m_GREATEST_SIZE : mg "GREATEST_SIZE" = some (.int (1000000000000000000000000000000) A.t_GREATEST_SIZE)
  m_PART_NAMES : mg "PART_NAMES" = some (.ref A.t_PART_NAMES)
  q_PART_NAMES : Rd.SqTK K A.t_PART_NAMES [.str "wrap", .str "slot", .str "empty", .str "full", .str "when"]
  m_PART_WORDS : mg "PART_WORDS" = some (.ref A.t_PART_WORDS)
  q_PART_WORDS_slot : Rd.SqTK K A.t_PART_WORDS_slot [.str "rest", .str "off", .str "mask"]
  d_PART_WORDS_slot : KDct K w A.t_PART_WORDS "slot" (.ref A.t_PART_WORDS_slot)
  q_PART_WORDS_empty : Rd.SqTK K A.t_PART_WORDS_empty [.str "same", .str "count", .str "note"]
  d_PART_WORDS_empty : KDct K w A.t_PART_WORDS "empty" (.ref A.t_PART_WORDS_empty)
  q_PART_WORDS_when : Rd.SqTK K A.t_PART_WORDS_when [.str "refuse", .str "drop", .str "over"]
  d_PART_WORDS_when : KDct K w A.t_PART_WORDS "when" (.ref A.t_PART_WORDS_when)
  m_MEASURES : mg "MEASURES" = some (.ref A.t_MEASURES)
  q_MEASURES : Rd.SqTK K A.t_MEASURES [.str "diff", .str "count"]
  m_SIGNS : mg "SIGNS" = some (.ref A.t_SIGNS)
  q_SIGNS : Rd.SqTK K A.t_SIGNS [.str "=", .str ">="]
  m_PLAIN_FULLS : mg "PLAIN_FULLS" = some (.ref A.t_PLAIN_FULLS)
  q_PLAIN_FULLS : Rd.SqTK K A.t_PLAIN_FULLS [.str "next", .str "note"]
  m_GREATEST_SLOPE : mg "GREATEST_SLOPE" = some (.int (4) A.t_GREATEST_SLOPE)
  m_GREATEST_BASE : mg "GREATEST_BASE" = some (.int (20) A.t_GREATEST_BASE)
  m_GREATEST_WIDTH : mg "GREATEST_WIDTH" = some (.int (100) A.t_GREATEST_WIDTH)
  m_GREATEST_LAG : mg "GREATEST_LAG" = some (.int (10000000000000000000000000000000000000000) A.t_GREATEST_LAG)
  m_NoSize : mg "NoSize" = some (.ref A.c_NoSize)
  x_NoSize : PySem.W.excIn K A.c_NoSize [.type "ValueError", .type "Exception", .type "BaseException", .type "object"] "ValueError.__new__" = true
  kp_NoSize : PySem.W.keepIn K (.ref A.c_NoSize) = true
  sb_NoSize : PySem.W.subIn K (.ref A.c_NoSize) (.type "BaseException") = some true
  tc_NoSize : PySem.W.typeIn K (.ref A.c_NoSize) = some (.type "type")
  m_NoRing : mg "NoRing" = some (.ref A.c_NoRing)
  x_NoRing : PySem.W.excIn K A.c_NoRing [.type "ValueError", .type "Exception", .type "BaseException", .type "object"] "ValueError.__new__" = true
  kp_NoRing : PySem.W.keepIn K (.ref A.c_NoRing) = true
  sb_NoRing : PySem.W.subIn K (.ref A.c_NoRing) (.type "BaseException") = some true
  tc_NoRing : PySem.W.typeIn K (.ref A.c_NoRing) = some (.type "type")
  m_NotDecided : mg "NotDecided" = some (.ref A.c_NotDecided)
  x_NotDecided : PySem.W.excIn K A.c_NotDecided [.type "ValueError", .type "Exception", .type "BaseException", .type "object"] "ValueError.__new__" = true
  kp_NotDecided : PySem.W.keepIn K (.ref A.c_NotDecided) = true
  sb_NotDecided : PySem.W.subIn K (.ref A.c_NotDecided) (.type "BaseException") = some true
  tc_NotDecided : PySem.W.typeIn K (.ref A.c_NotDecided) = some (.type "type")
  m_NoLag : mg "NoLag" = some (.ref A.c_NoLag)
  x_NoLag : PySem.W.excIn K A.c_NoLag [.type "ValueError", .type "Exception", .type "BaseException", .type "object"] "ValueError.__new__" = true
  kp_NoLag : PySem.W.keepIn K (.ref A.c_NoLag) = true
  sb_NoLag : PySem.W.subIn K (.ref A.c_NoLag) (.type "BaseException") = some true
  tc_NoLag : PySem.W.typeIn K (.ref A.c_NoLag) = some (.type "type")
  m_Outside : mg "Outside" = some (.ref A.c_Outside)
  x_Outside : PySem.W.excIn K A.c_Outside [.type "ValueError", .type "Exception", .type "BaseException", .type "object"] "ValueError.__new__" = true
  kp_Outside : PySem.W.keepIn K (.ref A.c_Outside) = true
  sb_Outside : PySem.W.subIn K (.ref A.c_Outside) (.type "BaseException") = some true
  tc_Outside : PySem.W.typeIn K (.ref A.c_Outside) = some (.type "type")
  m_Form : mg "Form" = some (.ref A.c_Form)
  k_Form : Cls K A.c_Form
  n_Form_slope : NoAttr K A.c_Form "slope"
  n_Form_base : NoAttr K A.c_Form "base"
  K_Form : Mk K A.c_Form A.f_Formu__initu_
  i_Form : IsC K A.c_Form
  kt_Form_Form : PySem.W.kitOne K (.ref A.c_Form) (.ref A.c_Form) = some true
  kt_int_Form : PySem.W.kitOne K (.type "int") (.ref A.c_Form) = some false
  m_Scheme : mg "Scheme" = some (.ref A.c_Scheme)
  k_Scheme : Cls K A.c_Scheme
  n_Scheme_parts : NoAttr K A.c_Scheme "_parts"
  K_Scheme : Mk K A.c_Scheme A.f_Schemeu__initu_
  m_RingError : mg "RingError" = some (.ref A.c_RingError)
  m_Log : mg "Log" = some (.ref A.c_Log)
  k_Log : Cls K A.c_Log
  n_Log_modulus : NoAttr K A.c_Log "modulus"
  n_Log_size : NoAttr K A.c_Log "size"
  n_Log_put_count : NoAttr K A.c_Log "_put_count"
  K_Log : Mk K A.c_Log A.f_Logu__initu_
  m_has_outside : mg "has_outside" = some (.ref A.f_has_outside)
  F_has_outside : Fun K "has_outside" "has_outside" s_has_outside A.f_has_outside A.d_has_outside
  b_has_outside : Binds K A.d_has_outside ["kind", "n", "modulus"] []
  m_is_whole : mg "is_whole" = some (.ref A.f_is_whole)
  F_is_whole : Fun K "is_whole" "is_whole" s_is_whole A.f_is_whole A.d_is_whole
  b_is_whole : Binds K A.d_is_whole ["thing"] []
  m_is_whole_from : mg "is_whole_from" = some (.ref A.f_is_whole_from)
  F_is_whole_from : Fun K "is_whole_from" "is_whole_from" s_is_whole_from A.f_is_whole_from A.d_is_whole_from
  b_is_whole_from : Binds K A.d_is_whole_from ["thing", "low", "high"] []
  m_is_word_of : mg "is_word_of" = some (.ref A.f_is_word_of)
  F_is_word_of : Fun K "is_word_of" "is_word_of" s_is_word_of A.f_is_word_of A.d_is_word_of
  b_is_word_of : Binds K A.d_is_word_of ["thing", "words"] []
  m_is_size : mg "is_size" = some (.ref A.f_is_size)
  F_is_size : Fun K "is_size" "is_size" s_is_size A.f_is_size A.d_is_size
  b_is_size : Binds K A.d_is_size ["thing"] []
  m_check_size : mg "check_size" = some (.ref A.f_check_size)
  F_check_size : Fun K "check_size" "check_size" s_check_size A.f_check_size A.d_check_size
  b_check_size : Binds K A.d_check_size ["n"] []
  F_Formu__initu_ : Fun K "__init__" "Form.__init__" s_Formu__initu_ A.f_Formu__initu_ A.d_Formu__initu_
  b_Formu__initu_ : Binds K A.d_Formu__initu_ ["self", "slope", "base"] []
  m_form_at : mg "form_at" = some (.ref A.f_form_at)
  F_form_at : Fun K "form_at" "form_at" s_form_at A.f_form_at A.d_form_at
  b_form_at : Binds K A.d_form_at ["form", "n"] []
  F_Scheme_wrap : Fun K "wrap" "Scheme.wrap" s_Scheme_wrap A.f_Scheme_wrap A.d_Scheme_wrap
  b_Scheme_wrap : Binds K A.d_Scheme_wrap ["self"] []
  m_wrap_at : mg "wrap_at" = some (.ref A.f_wrap_at)
  F_wrap_at : Fun K "wrap_at" "wrap_at" s_wrap_at A.f_wrap_at A.d_wrap_at
  b_wrap_at : Binds K A.d_wrap_at ["wrap", "n"] []
  m_modulus_of : mg "modulus_of" = some (.ref A.f_modulus_of)
  F_modulus_of : Fun K "modulus_of" "modulus_of" s_modulus_of A.f_modulus_of A.d_modulus_of
  b_modulus_of : Binds K A.d_modulus_of ["scheme", "n"] []
  F_Scheme_slot : Fun K "slot" "Scheme.slot" s_Scheme_slot A.f_Scheme_slot A.d_Scheme_slot
  b_Scheme_slot : Binds K A.d_Scheme_slot ["self"] []
  F_Scheme_when : Fun K "when" "Scheme.when" s_Scheme_when A.f_Scheme_when A.d_Scheme_when
  b_Scheme_when : Binds K A.d_Scheme_when ["self"] []
  m_log_modulus : mg "log_modulus" = some (.ref A.f_log_modulus)
  F_log_modulus : Fun K "log_modulus" "log_modulus" s_log_modulus A.f_log_modulus A.d_log_modulus
  b_log_modulus : Binds K A.d_log_modulus ["scheme", "n"] []
  F_Logu__initu_ : Fun K "__init__" "Log.__init__" s_Logu__initu_ A.f_Logu__initu_ A.d_Logu__initu_
  b_Logu__initu_ : Binds K A.d_Logu__initu_ ["self", "scheme", "n"] []
  m_check_lag : mg "check_lag" = some (.ref A.f_check_lag)
  F_check_lag : Fun K "check_lag" "check_lag" s_check_lag A.f_check_lag A.d_check_lag
  b_check_lag : Binds K A.d_check_lag ["thing", "most"] []
  F_Logu__iaddu_ : Fun K "__iadd__" "Log.__iadd__" s_Logu__iaddu_ A.f_Logu__iaddu_ A.d_Logu__iaddu_
  b_Logu__iaddu_ : Binds K A.d_Logu__iaddu_ ["self", "other"] []
  F_Log_put_count : Fun K "put_count" "Log.put_count" s_Log_put_count A.f_Log_put_count A.d_Log_put_count
  b_Log_put_count : Binds K A.d_Log_put_count ["self"] []
  F_Log_held : Fun K "held" "Log.held" s_Log_held A.f_Log_held A.d_Log_held
  b_Log_held : Binds K A.d_Log_held ["self"] []
  F_Logu__getitemu_ : Fun K "__getitem__" "Log.__getitem__" s_Logu__getitemu_ A.f_Logu__getitemu_ A.d_Logu__getitemu_
  b_Logu__getitemu_ : Binds K A.d_Logu__getitemu_ ["self", "at"] []
  m_is_small_form : mg "is_small_form" = some (.ref A.f_is_small_form)
  F_is_small_form : Fun K "is_small_form" "is_small_form" s_is_small_form A.f_is_small_form A.d_is_small_form
  b_is_small_form : Binds K A.d_is_small_form ["thing"] []
  m_is_full : mg "is_full" = some (.ref A.f_is_full)
  F_is_full : Fun K "is_full" "is_full" s_is_full A.f_is_full A.d_is_full
  b_is_full : Binds K A.d_is_full ["thing"] []
  m_is_wrap : mg "is_wrap" = some (.ref A.f_is_wrap)
  F_is_wrap : Fun K "is_wrap" "is_wrap" s_is_wrap A.f_is_wrap A.d_is_wrap
  b_is_wrap : Binds K A.d_is_wrap ["thing"] []
  m_is_part : mg "is_part" = some (.ref A.f_is_part)
  F_is_part : Fun K "is_part" "is_part" s_is_part A.f_is_part A.d_is_part
  b_is_part : Binds K A.d_is_part ["part", "thing"] []
  m_first_wrong : mg "first_wrong" = some (.ref A.f_first_wrong)
  F_first_wrong : Fun K "first_wrong" "first_wrong" s_first_wrong A.f_first_wrong A.d_first_wrong
  b_first_wrong : Binds K A.d_first_wrong ["parts"] []
  F_Schemeu__initu_ : FunD K "__init__" "Scheme.__init__" (defArgs s_Schemeu__initu_) (defBody s_Schemeu__initu_) (defScope s_Schemeu__initu_) [] [("when", .str "refuse")] A.f_Schemeu__initu_ A.d_Schemeu__initu_
  kb_Schemeu__initu_ : ∃ mv : List Value, KBn K A.d_Schemeu__initu_ ["self", "wrap", "slot", "empty", "full", "when"] 1 ["wrap", "slot", "empty", "full", "when"] (fun us ws => us ++ ws) (fun vs zs => vs ++ zs)
  m_l_mixed : mg "_law_mixed" = some (.ref A.f_l_mixed)
  F_l_mixed : Fun K "_law_mixed" "_law_mixed" s_l_mixed A.f_l_mixed A.d_l_mixed
  b_l_mixed : Binds K A.d_l_mixed ["_law_number", "_law_place", "_law_many"] []
  m_l_pool : mg "_law_pool" = some (.ref A.f_l_pool)
  F_l_pool : Fun K "_law_pool" "_law_pool" s_l_pool A.f_l_pool A.d_l_pool
  b_l_pool : Binds K A.d_l_pool ["_law_script"] []
  m_l_draw : mg "_law_draw" = some (.ref A.f_l_draw)
  F_l_draw : Fun K "_law_draw" "_law_draw" s_l_draw A.f_l_draw A.d_l_draw
  b_l_draw : Binds K A.d_l_draw ["_law_pool_here", "_law_many"] []
  m_l_wide : mg "_law_wide" = some (.ref A.f_l_wide)
  F_l_wide : Fun K "_law_wide" "_law_wide" s_l_wide A.f_l_wide A.d_l_wide
  b_l_wide : Binds K A.d_l_wide ["_law_pool_here", "_law_most"] []
  m_l_made : mg "_law_made" = some (.ref A.f_l_made)
  F_l_made : Fun K "_law_made" "_law_made" s_l_made A.f_l_made A.d_l_made
  b_l_made : Binds K A.d_l_made ["_law_row", "_law_manner"] []
  m_l_power : mg "_law_power" = some (.ref A.f_l_power)
  F_l_power : Fun K "_law_power" "_law_power" s_l_power A.f_l_power A.d_l_power
  b_l_power : Binds K A.d_l_power ["_law_many"] []
  m_l_setting : mg "_law_setting" = some (.ref A.f_l_setting)
  F_l_setting : Fun K "_law_setting" "_law_setting" s_l_setting A.f_l_setting A.d_l_setting
  b_l_setting : Binds K A.d_l_setting ["_law_pool_here"] []
  m_l_slot_is : mg "_law_slot_is" = some (.ref A.f_l_slot_is)
  F_l_slot_is : Fun K "_law_slot_is" "_law_slot_is" s_l_slot_is A.f_l_slot_is A.d_l_slot_is
  b_l_slot_is : Binds K A.d_l_slot_is ["_law_ring_log", "_law_k", "_law_n", "_law_total"] []
  m_l_refuses : mg "_law_refuses" = some (.ref A.f_l_refuses)
  F_l_refuses : Fun K "_law_refuses" "_law_refuses" s_l_refuses A.f_l_refuses A.d_l_refuses
  b_l_refuses : Binds K A.d_l_refuses ["_law_ring_log", "_law_n"] []
  m_l_no_number : mg "_law_no_number" = some (.ref A.f_l_no_number)
  F_l_no_number : Fun K "_law_no_number" "_law_no_number" s_l_no_number A.f_l_no_number A.d_l_no_number
  b_l_no_number : Binds K A.d_l_no_number ["_law_ring_log", "_law_number"] []
  m_law : mg "law" = some (.ref A.f_law)
  F_law : Fun K "law" "law" s_law A.f_law A.d_law
  b_law : Binds K A.d_law ["_law_script"] []
  R_Scheme_wrap : PropOf K A.c_Scheme "wrap" A.p_Scheme_wrap A.f_Scheme_wrap
  R_Scheme_slot : PropOf K A.c_Scheme "slot" A.p_Scheme_slot A.f_Scheme_slot
  R_Scheme_when : PropOf K A.c_Scheme "when" A.p_Scheme_when A.f_Scheme_when
  O_Logu__iaddu__I : PySem.W.selfFirst K A.c_Log = true ∧ Own.Sp1 K A.c_Log (dunderI (Operator.info .Add).2) A.f_Logu__iaddu_
  R_Log_put_count : PropOf K A.c_Log "put_count" A.p_Log_put_count A.f_Log_put_count
  R_Log_held : PropOf K A.c_Log "held" A.p_Log_held A.f_Log_held
  O_Logu__getitemu__1 : Own.Sp1 K A.c_Log "__getitem__" A.f_Logu__getitemu_
  fi_Logu__getitemu_ : PySem.W.fnIn K A.f_Logu__getitemu_ = true
  nf_Form_Form : PySem.W.notFirst K A.c_Form (.ref A.c_Form) = true
  nf_int_Form : PySem.W.notFirst K A.c_Form (.type "int") = true
  xm_NoSize_NoSize : PySem.W.exmOne K (.ref A.c_NoSize) (.ref A.c_NoSize) = some true
  xm_NoRing_NoSize : PySem.W.exmOne K (.ref A.c_NoRing) (.ref A.c_NoSize) = some false
  xm_NoRing_NoRing : PySem.W.exmOne K (.ref A.c_NoRing) (.ref A.c_NoRing) = some true
  xm_NotDecided_NoSize : PySem.W.exmOne K (.ref A.c_NotDecided) (.ref A.c_NoSize) = some false
  xm_NotDecided_NoRing : PySem.W.exmOne K (.ref A.c_NotDecided) (.ref A.c_NoRing) = some false
  xm_NotDecided_NotDecided : PySem.W.exmOne K (.ref A.c_NotDecided) (.ref A.c_NotDecided) = some true
  xm_NoLag_NoSize : PySem.W.exmOne K (.ref A.c_NoLag) (.ref A.c_NoSize) = some false
  xm_NoLag_NoRing : PySem.W.exmOne K (.ref A.c_NoLag) (.ref A.c_NoRing) = some false
  xm_NoLag_NotDecided : PySem.W.exmOne K (.ref A.c_NoLag) (.ref A.c_NotDecided) = some false
  xm_NoLag_NoLag : PySem.W.exmOne K (.ref A.c_NoLag) (.ref A.c_NoLag) = some true
  xm_Outside_Outside : PySem.W.exmOne K (.ref A.c_Outside) (.ref A.c_Outside) = some true

/-- a form's fields -/
def fF (s b : Int) : List (Str × V) := [("slope", .int s), ("base", .int b)]
theorem fF_slope (s b : Int) : (fF s b).lookup ("slope" : Str) = some (V.int s) := by unfold fF; walk_at "lk"
theorem fF_base (s b : Int) : (fF s b).lookup ("base" : Str) = some (V.int b) := by unfold fF; walk_at "lk"
theorem fF_put (s b : Int) : putF "base" (.int b) (putF "slope" (.int s) []) = fF s b := by
  show (if ("slope" : Str) = "base" then _ else (("slope" : Str), V.int s) :: putF "base" (V.int b) []) = _
  rw [if_neg q_slope_base] <;> rfl
local macro_rules | `(tactic| walk_at "lk") => `(tactic| first | exact fF_slope _ _ | exact fF_base _ _)
def Form (A : Adr) (H : Hp) (p : Addr) (s b : Int) : Prop := ∃ dx, H p = some (.ins A.c_Form dx (fF s b))
/-- what may stand beside a form: a form, or an int -/
def ArgF (A : Adr) (H : Hp) (y : V) (c d : Int) : Prop := (∃ q dq, y = .ref q ∧ H q = some (.ins A.c_Form dq (fF c d))) ∨ (c = 0 ∧ y = .int d)
local macro_rules | `(tactic| walk_at "argf") => `(tactic| first | with_reducible assumption | exact Or.inl ⟨_, _, rfl, by walk_at "hp"⟩ | exact Or.inr ⟨rfl, rfl⟩)

local macro_rules | `(tactic| walk_at "hpt") => `(tactic| first | with_reducible assumption | ((with_reducible apply Rd.SqTK.get); with_reducible assumption) | ((with_reducible apply L2.SqT.of); walk_at "hp") | fail "hpt")
local macro_rules | `(tactic| walk_at "flt") => `(tactic| first | exact Rd.flatW _ | with_unfolding_all rfl | fail "flt")
local macro_rules | `(tactic| walk_at "kit") => `(tactic| first | with_reducible assumption | with_reducible exact Rd.kt_int_int | with_reducible exact Rd.kt_int_bool | with_reducible exact Rd.kt_int_str | with_reducible exact Rd.kt_int_tuple | with_reducible exact Rd.kt_int_list | with_reducible exact Rd.kt_int_dict | with_reducible exact Rd.kt_bool_int | with_reducible exact Rd.kt_bool_bool | with_reducible exact Rd.kt_bool_str | with_reducible exact Rd.kt_bool_tuple | with_reducible exact Rd.kt_bool_list | with_reducible exact Rd.kt_bool_dict | with_reducible exact Rd.kt_str_int | with_reducible exact Rd.kt_str_bool | with_reducible exact Rd.kt_str_str | with_reducible exact Rd.kt_str_tuple | with_reducible exact Rd.kt_str_list | with_reducible exact Rd.kt_str_dict | with_reducible exact Rd.kt_NoneType_int | with_reducible exact Rd.kt_NoneType_bool | with_reducible exact Rd.kt_NoneType_str | with_reducible exact Rd.kt_NoneType_tuple | with_reducible exact Rd.kt_NoneType_list | with_reducible exact Rd.kt_NoneType_dict | with_reducible exact Rd.kt_tuple_int | with_reducible exact Rd.kt_tuple_bool | with_reducible exact Rd.kt_tuple_str | with_reducible exact Rd.kt_tuple_tuple | with_reducible exact Rd.kt_tuple_list | with_reducible exact Rd.kt_tuple_dict | with_reducible exact Rd.kt_list_int | with_reducible exact Rd.kt_list_bool | with_reducible exact Rd.kt_list_str | with_reducible exact Rd.kt_list_tuple | with_reducible exact Rd.kt_list_list | with_reducible exact Rd.kt_list_dict | with_reducible exact Rd.kt_dict_int | with_reducible exact Rd.kt_dict_bool | with_reducible exact Rd.kt_dict_str | with_reducible exact Rd.kt_dict_tuple | with_reducible exact Rd.kt_dict_list | with_reducible exact Rd.kt_dict_dict | fail "kit")
local macro_rules | `(tactic| walk_at "sz") => `(tactic| first | exact L2.small1000 (by omega) | exact L2.small1000 (by walk_at "ll") | exact Nat.le_of_lt (L2.small1000 (by walk_at "ll")) | fail "sz")
local macro_rules | `(tactic| walk_at "ll0") => `(tactic| with_unfolding_all exact Nat.lt_of_lt_of_le Nat.zero_lt_one (Nat.le_of_ble_eq_true rfl))
/-- what wraps the counters: a width, or a form -/
inductive Wr where
  | width (w : Int)
  | form (s b : Int)
/-- the test for full -/
inductive Fl where
  | plain (k : Str)
  | lim (k g : Str) (s b : Int)
structure Pt where
  wrap : Wr
  slot : Str
  empty : Str
  full : Fl
  wen : Str
def IsWrap (A : Adr) (H : Hp) (v : V) : Wr → Prop
  | .width w => v = .int w
  | .form s b => ∃ p dx, v = .ref p ∧ H p = some (.ins A.c_Form dx (fF s b))
def IsFull (A : Adr) (H : Hp) (v : V) : Fl → Prop
  | .plain k => ∃ p, v = .ref p ∧ H p = some (.tup [.str k])
  | .lim k g s b => ∃ p q dq, v = .ref p ∧ H p = some (.tup [.str k, .str g, .ref q]) ∧ H q = some (.ins A.c_Form dq (fF s b))
theorem IsWrap.same {A : Adr} {H H' : Hp} {v : V} (S : Same H H') : ∀ {t : Wr}, IsWrap A H v t → IsWrap A H' v t
  | .width _, h => h
  | .form _ _, ⟨p, dx, e, h⟩ => ⟨p, dx, e, S _ _ h⟩
theorem IsFull.same {A : Adr} {H H' : Hp} {v : V} (S : Same H H') : ∀ {t : Fl}, IsFull A H v t → IsFull A H' v t
  | .plain _, ⟨p, e, h⟩ => ⟨p, e, S _ _ h⟩
  | .lim _ _ _ _, ⟨p, q, dq, e, h, g⟩ => ⟨p, q, dq, e, S _ _ h, S _ _ g⟩
def wSlot : List Str := ["rest", "off", "mask"]
def wEmpty : List Str := ["same", "count", "note"]
def wWhen : List Str := ["refuse", "drop", "over"]
def wMeas : List Str := ["diff", "count"]
def wSign : List Str := ["=", ">="]
def wPlain : List Str := ["next", "note"]
def WfW : Wr → Prop
  | .width w => 1 ≤ w ∧ w ≤ 100
  | .form s b => 0 ≤ s ∧ s ≤ 4 ∧ -20 ≤ b ∧ b ≤ 20
def WfF : Fl → Prop
  | .plain k => k ∈ wPlain
  | .lim k g s b => k ∈ wMeas ∧ g ∈ wSign ∧ 0 ≤ s ∧ s ≤ 4 ∧ -20 ≤ b ∧ b ≤ 20
structure Wf (p : Pt) : Prop where
  w : WfW p.wrap
  s : p.slot ∈ wSlot
  e : p.empty ∈ wEmpty
  f : WfF p.full
  n : p.wen ∈ wWhen
  m : ∀ s b, p.wrap = .form s b → p.slot ≠ "mask"
/-- the dict of the parts -/
def kvP (w : V) (s e : Str) (f : V) (n : Str) : List (Key × V) := [(.inr "wrap", w), (.inr "slot", .str s), (.inr "empty", .str e), (.inr "full", f), (.inr "when", .str n)]
theorem kvP_wrap (w : V) (s e : Str) (f : V) (n : Str) : valV (kvP w s e f n) (.inr "wrap") = some w := by with_unfolding_all rfl
theorem kvP_slot (w : V) (s e : Str) (f : V) (n : Str) : valV (kvP w s e f n) (.inr "slot") = some (.str s) := by with_unfolding_all rfl
theorem kvP_empty (w : V) (s e : Str) (f : V) (n : Str) : valV (kvP w s e f n) (.inr "empty") = some (.str e) := by with_unfolding_all rfl
theorem kvP_full (w : V) (s e : Str) (f : V) (n : Str) : valV (kvP w s e f n) (.inr "full") = some f := by with_unfolding_all rfl
theorem kvP_when (w : V) (s e : Str) (f : V) (n : Str) : valV (kvP w s e f n) (.inr "when") = some (.str n) := by with_unfolding_all rfl
theorem kvP_merge (w : V) (s e : Str) (f : V) (n : Str) : mergeK [] [(.inr "wrap", w), (.inr "slot", .str s), (.inr "empty", .str e), (.inr "full", f), (.inr "when", .str n)] = kvP w s e f n := by with_unfolding_all rfl
local macro_rules | `(tactic| walk_at "dl") => `(tactic| first | with_reducible exact kvP_wrap _ _ _ _ _ | with_reducible exact kvP_slot _ _ _ _ _ | with_reducible exact kvP_empty _ _ _ _ _ | with_reducible exact kvP_full _ _ _ _ _ | with_reducible exact kvP_when _ _ _ _ _ | fail "dl")
def fS (d : Addr) : List (Str × V) := [("_parts", .ref d)]
theorem fS_p (d : Addr) : (fS d).lookup ("_parts" : Str) = some (V.ref d) := by unfold fS; walk_at "lk"
theorem fS_put (d : Addr) : putF "_parts" (.ref d) [] = fS d := rfl
local macro_rules | `(tactic| walk_at "lk") => `(tactic| exact fS_p _)
def IsScheme (A : Adr) (H : Hp) (p : Addr) (t : Pt) : Prop := ∃ dx d vw vf, H p = some (.ins A.c_Scheme dx (fS d)) ∧ H d = some (.dK (kvP vw t.slot t.empty vf t.wen)) ∧ IsWrap A H vw t.wrap ∧ IsFull A H vf t.full
theorem IsScheme.same {A : Adr} {H H' : Hp} {p : Addr} {t : Pt} (S : Same H H') : IsScheme A H p t → IsScheme A H' p t
  | ⟨dx, d, vw, vf, h1, h2, h3, h4⟩ => ⟨dx, d, vw, vf, S _ _ h1, S _ _ h2, h3.same S, h4.same S⟩
theorem nTrue {p : Prop} [Decidable p] (h : p) : (!decide p) = false := by rw [decide_eq_true h]; rfl
theorem nmask {s : Str} (h : s ≠ "mask") : decide (V.str s = V.str "mask") = false := decide_eq_false fun e => h (V.str.inj e)
local macro_rules | `(tactic| walk_at "bT") => `(tactic| first | with_reducible assumption | with_unfolding_all rfl | exact decide_eq_true (by omega) | exact Rd.inW (by with_reducible assumption) | fail "bT")
local macro_rules | `(tactic| walk_at "bF") => `(tactic| first | with_reducible assumption | with_unfolding_all rfl | exact nTrue (by omega) | (rw [Rd.inW (by with_reducible assumption)]; rfl) | fail "bF")

/-- the drawn parts, as tuples -/
def IsTurn (H : Hp) (v : V) : Wr → Prop
  | .width w => v = .int w
  | .form s b => ∃ p, v = .ref p ∧ H p = some (.tup [.int s, .int b])
def IsFill (H : Hp) (v : V) : Fl → Prop
  | .plain k => ∃ p, v = .ref p ∧ H p = some (.tup [.str k])
  | .lim k g s b => ∃ p q, v = .ref p ∧ H p = some (.tup [.str k, .str g, .ref q]) ∧ H q = some (.tup [.int s, .int b])
theorem IsTurn.same {H H' : Hp} {v : V} (S : Same H H') : ∀ {t : Wr}, IsTurn H v t → IsTurn H' v t
  | .width _, h => h
  | .form _ _, ⟨p, e, h⟩ => ⟨p, e, S _ _ h⟩
theorem IsFill.same {H H' : Hp} {v : V} (S : Same H H') : ∀ {t : Fl}, IsFill H v t → IsFill H' v t
  | .plain _, ⟨p, e, h⟩ => ⟨p, e, S _ _ h⟩
  | .lim _ _ _ _, ⟨p, q, e, h, g⟩ => ⟨p, q, e, S _ _ h, S _ _ g⟩
theorem IsTurn.frm {H H' : Hp} {a : Addr} {x y : Int} {v : V} (F : Frm a H H') (ha : H a = some (.lst [.int x, .int y])) : ∀ {t : Wr}, IsTurn H v t → IsTurn H' v t
  | .width _, h => h
  | .form _ _, ⟨p, e, h⟩ => ⟨p, e, F _ _ h (fun z => by rw [z, ha] at h; cases h)⟩
theorem IsTurn.frmS {H H' : Hp} {a : Addr} {o : HO} {v : V} (F : Frm a H H') (ha : H a = some o) (so : SrcO o) {t : Wr} (h : IsTurn H v t) : IsTurn H' v t := by
  obtain ⟨x, y, rfl, _⟩ := so
  exact h.frm F ha
def IsParts (H : Hp) (v : V) (t : Pt) : Prop := ∃ p vt vf, v = .ref p ∧ H p = some (.tup [vt, .str t.slot, .str t.empty, vf, .str t.wen]) ∧ IsTurn H vt t.wrap ∧ IsFill H vf t.full
theorem IsParts.same {H H' : Hp} {v : V} {t : Pt} (S : Same H H') : IsParts H v t → IsParts H' v t
  | ⟨p, vt, vf, e, h, h1, h2⟩ => ⟨p, vt, vf, e, S _ _ h, h1.same S, h2.same S⟩
/-- a pair of a slope and a base within the bounds -/
def Lim (H : Hp) (v : V) : Prop := ∃ p s b, v = .ref p ∧ H p = some (.tup [.int s, .int b]) ∧ 0 ≤ s ∧ s ≤ 4 ∧ -20 ≤ b ∧ b ≤ 20
theorem Lim.same {H H' : Hp} {v : V} (S : Same H H') : Lim H v → Lim H' v
  | ⟨p, s, b, e, h, g⟩ => ⟨p, s, b, e, S _ _ h, g⟩
theorem IsTurn.keep {H H' : Hp} {v : V} (S : ∀ p xs, H p = some (.tup xs) → H' p = some (.tup xs)) : ∀ {t : Wr}, IsTurn H v t → IsTurn H' v t
  | .width _, h => h
  | .form _ _, ⟨p, e, h⟩ => ⟨p, e, S _ _ h⟩
theorem IsFill.keep {H H' : Hp} {v : V} (S : ∀ p xs, H p = some (.tup xs) → H' p = some (.tup xs)) : ∀ {t : Fl}, IsFill H v t → IsFill H' v t
  | .plain _, ⟨p, e, h⟩ => ⟨p, e, S _ _ h⟩
  | .lim _ _ _ _, ⟨p, q, e, h, g⟩ => ⟨p, q, e, S _ _ h, S _ _ g⟩
theorem Lim.frmS {H H' : Hp} {a : Addr} {o : HO} {v : V} (F : Frm a H H') (ha : H a = some o) (so : SrcO o) : Lim H v → Lim H' v
  | ⟨p, s, b, e, h, g⟩ => ⟨p, s, b, e, F _ _ h (fun z => by obtain ⟨x, y, rfl, _⟩ := so; rw [z, ha] at h; cases h), g⟩

def modV (t : Wr) (n : Int) : Int := match t with
  | .width w => 1 * 2 ^ w.toNat
  | .form s b => s * n + b
/-- the slot of a counter -/
def slotV (k : Str) (n c : Int) : V := if k = "rest" then .int (c % n) else if k = "mask" then .int (Builtin.bitAnd c (n - 1)) else if c < n then .int c else if c < 2 * n then .int (c - n) else .non
theorem slot3 {k : Str} (h : k ∈ wSlot) : k = "rest" ∨ k = "mask" ∨ k = "off" := by
  simp only [wSlot, List.mem_cons, List.not_mem_nil, or_false] at h
  rcases h with h | h | h
  · exact .inl h
  · exact .inr (.inr h)
  · exact .inr (.inl h)
theorem mask_ne_rest : ¬ (("mask" : Str) = "rest") := by decide +kernel
theorem off_ne_rest : ¬ (("off" : Str) = "rest") := by decide +kernel
theorem off_ne_mask : ¬ (("off" : Str) = "mask") := by decide +kernel
theorem slotV_rest (n c : Int) : slotV "rest" n c = .int (c % n) := by unfold slotV; rw [if_pos rfl]
theorem slotV_mask (n c : Int) : slotV "mask" n c = .int (Builtin.bitAnd c (n - 1)) := by unfold slotV; rw [if_neg mask_ne_rest, if_pos rfl]
theorem slotV_off (n c : Int) : slotV "off" n c = if c < n then .int c else if c < 2 * n then .int (c - n) else .non := by unfold slotV; rw [if_neg off_ne_rest, if_neg off_ne_mask]
theorem strEq (x : Str) : decide (V.str x = V.str x) = true := decide_eq_true rfl
theorem strNe {x y : Str} (h : ¬ x = y) : decide (V.str x = V.str y) = false := decide_eq_false fun e => h (V.str.inj e)

/-- g is the gap of the counter c -/
def IsGap (k : Str) (n M c g : Int) : Prop := 1 ≤ g ∧ g ≤ M ∧ slotV k n ((c + g) % M) = slotV k n c ∧ ∀ h, 1 ≤ h → h < g → slotV k n ((c + h) % M) ≠ slotV k n c
theorem IsGap.one {k : Str} {n M c g g' : Int} (a : IsGap k n M c g) (b : IsGap k n M c g') : g = g' := by
  rcases Int.lt_trichotomy g g' with h | h | h
  · exact absurd a.2.2.1 (b.2.2.2 g a.1 h)
  · exact h
  · exact absurd b.2.2.1 (a.2.2.2 g' b.1 h)
theorem slotV_scal (k : Str) (n c s : Int) : scal (slotV k n c) (.int s) = true := by
  unfold slotV
  repeat' split
  all_goals rfl
theorem slotV_int {k : Str} {n c : Int} (h : slotV k n c ≠ .non) : ∃ s, slotV k n c = .int s := by
  unfold slotV at h ⊢
  repeat' split
  all_goals first | exact ⟨_, rfl⟩ | (exfalso; simp_all)
theorem pow_le {i : Nat} (h : i ≤ 100) : (2 : Int) ^ i ≤ 2 ^ 100 := by
  have : (2 : Nat) ^ i ≤ 2 ^ 100 := Nat.pow_le_pow_right (by decide) h
  exact_mod_cast this
theorem pow_pos2 (i : Nat) : (0 : Int) < 2 ^ i := Int.pow_pos (by decide)

local macro_rules | `(tactic| walk_at "exm") => `(tactic| with_reducible assumption)
theorem neSelf (x : V) : (!decide (x = x)) = false := by rw [decide_eq_true rfl]; rfl
local macro_rules | `(tactic| walk_at "bF") => `(tactic| first | exact neSelf _ | exact strNe (by with_reducible assumption) | fail "bF")
local macro_rules | `(tactic| walk_at "bT") => `(tactic| first | exact decide_eq_true (congrArg V.str (by with_reducible assumption)) | fail "bT")
local macro_rules | `(tactic| walk_at "sz") => `(tactic| first | ((with_reducible apply L2.small1000); (simp only [List.length_append, List.length_cons, List.length_nil]; omega)) | fail "sz")
theorem IsScheme.keepN {A : Adr} {H H' : Hp} {p : Addr} {t : Pt} (S : ∀ b o, H b = some o → (∀ xs, o ≠ .lst xs) → H' b = some o) : IsScheme A H p t → IsScheme A H' p t := by
  rintro ⟨dx, d, vw, vf, h1, h2, h3, h4⟩
  refine ⟨dx, d, vw, vf, S _ _ h1 (fun _ z => by cases z), S _ _ h2 (fun _ z => by cases z), ?_, ?_⟩
  · revert h3
    cases t.wrap with
    | width w => exact fun z => z
    | form s b => rintro ⟨q, dq, e, h⟩; exact ⟨q, dq, e, S _ _ h (fun _ z => by cases z)⟩
  · revert h4
    cases t.full with
    | plain k => rintro ⟨q, e, h⟩; exact ⟨q, e, S _ _ h (fun _ z => by cases z)⟩
    | lim k g s b => rintro ⟨q, r, dr, e, h, h'⟩; exact ⟨q, r, dr, e, S _ _ h (fun _ z => by cases z), S _ _ h' (fun _ z => by cases z)⟩

/-- what stands in a pool -/
def PoolO (H : Hp) (a : Addr) (o : HO) : Prop := ∃ (l : Addr) (ns : List Int) (i u c g : Int), o = .lst [.ref l, .int i, .int u, .int c, .int g] ∧ H l = some (.lst (ns.map V.int)) ∧ l ≠ a ∧ 0 ≤ i
theorem PoolO.same {H H' : Hp} {a : Addr} {o : HO} (h : PoolO H a o) (S : Same H H') : PoolO H' a o := by
  obtain ⟨l, ns, i, u, c, g, e, h1, h2, h3⟩ := h
  exact ⟨l, ns, i, u, c, g, e, S _ _ h1, h2, h3⟩
theorem PoolO.put {H : Hp} {a l : Addr} {ns : List Int} {i u c g : Int} (h : H l = some (.lst (ns.map V.int))) (n : l ≠ a) (i0 : 0 ≤ i) : PoolO (upd H a (.lst [.ref l, .int i, .int u, .int c, .int g])) a (.lst [.ref l, .int i, .int u, .int c, .int g]) :=
  ⟨l, ns, i, u, c, g, rfl, by rw [upd_ne n]; exact h, n, i0⟩
theorem PoolO.ntup {H : Hp} {a p : Addr} {o : HO} {xs : List V} (h : PoolO H a o) (ha : H a = some o) (hp : H p = some (.tup xs)) : p ≠ a := by
  obtain ⟨l, ns, i, u, c, g, rfl, _⟩ := h
  exact L2.ne_of hp ha (by intro z; cases z)
local macro_rules | `(tactic| walk_at "pool") => `(tactic| first | with_reducible assumption | ((with_reducible apply PoolO.same); (· with_reducible assumption); (· walk_at "frm")) | fail "pool")

def IsTests (H : Hp) (v : V) (e : Str) (f : Fl) : Prop := ∃ p vf, v = .ref p ∧ H p = some (.tup [.str e, vf]) ∧ IsFill H vf f
def IsRow (H : Hp) (v : V) (t : Pt) : Prop := ∃ p vt vf, v = .ref p ∧ H p = some (.tup [vt, .str t.slot, .str t.empty, vf]) ∧ IsTurn H vt t.wrap ∧ IsFill H vf t.full
theorem Frm.tups {H H' : Hp} {a : Addr} {o : HO} (F : Frm a H H') (ha : H a = some o) (ho : PoolO H a o) : ∀ p xs, H p = some (.tup xs) → H' p = some (.tup xs) := fun _ _ h => F _ _ h (ho.ntup ha h)
theorem Frm.plains {H H' : Hp} {a : Addr} {o : HO} (F : Frm a H H') (ha : H a = some o) (ho : PoolO H a o) : ∀ b u, H b = some u → (∀ xs, u ≠ .lst xs) → H' b = some u := fun b u h n => F _ _ h (by
  intro z
  obtain ⟨l, ns, i, v, c, g, rfl, _⟩ := ho
  rw [z, ha] at h
  exact n _ (Option.some.inj h).symm)
theorem Wf.wen {t : Pt} (h : Wf t) {w : Str} (hw : w ∈ wWhen) : Wf ⟨t.wrap, t.slot, t.empty, t.full, w⟩ := ⟨h.w, h.s, h.e, h.f, hw, h.m⟩

theorem SfreeR {H H' : Hp} {b : Nat} (h : H' b = none) (f : L2.Same H H') : H b = none := Sfree f h
/-- an object that is no integer: by its kind alone -/
def Odd (K : PySem.W.Frag) (H : Hp) (y : V) : Prop := ∃ t, TyX K H y t ∧ (PySem.W.kitOne K t (.type "int") = some false ∨ (PySem.W.kitOne K t (.type "int") = some true ∧ PySem.W.kitOne K t (.type "bool") = some true))
theorem Odd.same {K : PySem.W.Frag} {H H' : Hp} {y : V} (S : Same H H') (h : Odd K H y) : Odd K H' y := by
  obtain ⟨t, a, b⟩ := h
  exact ⟨t, Rd.tyx_same S a, b⟩
theorem oddV_odd {K : PySem.W.Frag} {H : Hp} {y : V} (h : Rd.OddV H y) : Odd K H y := by
  rcases h with h | ⟨b, rfl⟩
  · obtain ⟨t, hT, ty⟩ := h.ty (K := K)
    exact ⟨_, ty, .inl (Rd.kit_TS_int t hT)⟩
  · exact ⟨_, L2.TyX.base (L2.TyOf.bl _), .inr ⟨Rd.kit_bool_int, Rd.kit_bool_bool⟩⟩
local macro_rules | `(tactic| walk_at "tyx") => `(tactic| with_reducible assumption)
local macro_rules | `(tactic| walk_at "nn") => `(tactic| first | ((with_reducible apply SfreeR); (· with_reducible assumption); (· walk_at "frm")) | fail "nn")
local macro_rules | `(tactic| walk_at "odv") => `(tactic| first | with_reducible assumption | ((with_reducible apply Rd.OddV.sameR); (· with_reducible assumption); (· walk_at "frm")) | fail "odv")

/-- no size; no counter below M -/
def BadN (K : PySem.W.Frag) (H : Hp) (y : V) : Prop := (∃ i : Int, y = .int i ∧ i < 1) ∨ (∃ i : Int, y = .int i ∧ 1000000000000000000000000000000 < i) ∨ Odd K H y
def BadC (K : PySem.W.Frag) (H : Hp) (M : Int) (y : V) : Prop := (∃ i : Int, y = .int i ∧ i < 0) ∨ (∃ i : Int, y = .int i ∧ 0 ≤ i ∧ M ≤ i) ∨ Odd K H y
theorem BadN.same {K : PySem.W.Frag} {H H' : Hp} {y : V} (S : Same H H') (h : BadN K H y) : BadN K H' y := h.imp id fun h => h.imp id (Odd.same S)
theorem BadC.same {K : PySem.W.Frag} {H H' : Hp} {y : V} {M : Int} (S : Same H H') (h : BadC K H M y) : BadC K H' M y := h.imp id fun h => h.imp id (Odd.same S)

/-- the six words of a belief -/
def fieldsV (l M n : Int) : List V := [.int (l % M), .int (if l % M < n then 0 else l % M - n), .bl (decide (V.int (l % M) = V.int 0)), .bl (decide (l < M)), .bl (decide (l < M) || decide (n ≤ l % M)), .bl (decide (l < M))]
theorem eqv_six (a b : Int) (c d e f : Bool) : PySem.PyData.eqv (.list [.int a, .int b, .bool c, .bool d, .bool e, .bool f]) (.list [.int a, .int b, .bool c, .bool d, .bool e, .bool f]) = true := by simp [PySem.PyData.eqv, PySem.PyData.eqvAll]
theorem mod_self {l M : Int} (l0 : 0 ≤ l) (M1 : 1 ≤ M) : decide (V.int (l % M) = V.int l) = decide (l < M) := by
  rw [decide_eq_decide]
  constructor
  · intro h
    have e : l % M = l := V.int.inj h
    have := Int.emod_lt_of_pos l (show 0 < M by omega)
    omega
  · intro h
    rw [Int.emod_eq_of_lt l0 h]
theorem fieldsV_add {l M n : Int} (l0 : M ≤ l) (M1 : 1 ≤ M) : fieldsV (l + M) M n = fieldsV l M n := by
  unfold fieldsV
  rw [Int.add_emod_right, decide_eq_false (show ¬ l + M < M by omega), decide_eq_false (show ¬ l < M by omega)]
def Good (t : Pt) (n : Int) : Prop := modV t.wrap n % n = 0 ∧ ¬ (t.slot = "off" ∧ 2 * n < modV t.wrap n)
def LogOk (t : Pt) (n : Int) : Prop := t.wen = "over" ∧ Good t n
def BadM (K : PySem.W.Frag) (H : Hp) (m : Int) (y : V) : Prop := (∃ i : Int, y = .int i ∧ i < 0) ∨ (∃ i : Int, y = .int i ∧ 0 ≤ i ∧ m < i) ∨ Odd K H y
def BadL (K : PySem.W.Frag) (H : Hp) (y : V) : Prop := (∃ i : Int, y = .int i ∧ i < 0) ∨ (∃ i : Int, y = .int i ∧ 0 ≤ i ∧ 10000000000000000000000000000000000000000 < i) ∨ Odd K H y
theorem BadL.same {K : PySem.W.Frag} {H H' : Hp} {y : V} (S : Same H H') (h : BadL K H y) : BadL K H' y := h.imp id fun h => h.imp id (Odd.same S)
theorem neStr {x y : Str} (h : ¬ x = y) : (!decide (V.str x = V.str y)) = true := by rw [strNe h]; rfl
theorem neInt {x y : Int} (h : ¬ x = y) : (!decide (V.int x = V.int y)) = true := by rw [decide_eq_false fun e => h (V.int.inj e)]; rfl
local macro_rules | `(tactic| walk_at "bT") => `(tactic| first | exact neInt (by with_reducible assumption) | fail "bT")
local macro_rules | `(tactic| walk_at "bT") => `(tactic| first | exact neStr (by with_reducible assumption) | fail "bT")
local macro_rules | `(tactic| walk_at "bF") => `(tactic| first | exact nTrue (congrArg V.str (by with_reducible assumption)) | fail "bF")
local macro_rules | `(tactic| walk_at "bT") => `(tactic| first | exact decide_eq_true (by with_reducible assumption) | fail "bT")
local macro_rules | `(tactic| walk_at "bF") => `(tactic| first | exact decide_eq_false (by with_reducible assumption) | fail "bF")

theorem pow_pos3 (k : Nat) : (1 : Int) ≤ 2 ^ k := by
  have : (0 : Int) < 2 ^ k := Int.pow_pos (by decide)
  omega
theorem pow_mono3 {i j : Nat} (h : i ≤ j) : (2 : Int) ^ i ≤ 2 ^ j := by
  have : (2 : Nat) ^ i ≤ 2 ^ j := Nat.pow_le_pow_right (by decide) h
  exact_mod_cast this
theorem pow_le3 {i : Nat} (h : i ≤ 100) : (2 : Int) ^ i ≤ 1267650600228229401496703205376 := by
  have := pow_mono3 h
  have e : (2 : Int) ^ 100 = 1267650600228229401496703205376 := by decide +kernel
  omega
theorem pow_le99 {i : Nat} (h : i ≤ 99) : (2 : Int) ^ i ≤ 633825300114114700748351602688 := by
  have := pow_mono3 h
  have e : (2 : Int) ^ 99 = 633825300114114700748351602688 := by decide +kernel
  omega
theorem pow_dvd3 {i j : Nat} (h : i ≤ j) : (2 : Int) ^ j % 2 ^ i = 0 := by
  obtain ⟨r, rfl⟩ : ∃ r, j = i + r := ⟨j - i, by omega⟩
  rw [Int.pow_add, Int.mul_emod_right]
theorem idx_ok {b : Bool} {d : Int} (h0 : 0 ≤ d) (h1 : d < 2) : 0 ≤ (if b then (1 : Int) else 0) * d ∧ (if b then (1 : Int) else 0) * d < 2 ∧ ((if b then (1 : Int) else 0) * d = 1 → b = true) := by
  cases b
  · simp
  · simp; omega
theorem more_ok {n d : Int} (n1 : 1 ≤ n) (d0 : 0 ≤ d) : 0 ≤ n * (d % (1 + 20 / n)) ∧ n * (d % (1 + 20 / n)) ≤ 20 := by
  have q0 : 0 ≤ 20 / n := Int.ediv_nonneg (by decide) (by omega)
  have m0 := Int.emod_nonneg d (show 1 + 20 / n ≠ 0 by omega)
  have m1 := Int.emod_lt_of_pos d (show 0 < 1 + 20 / n by omega)
  have z := Int.mul_ediv_self_le (x := 20) (k := n) (by omega)
  have y : n * (d % (1 + 20 / n)) ≤ n * (20 / n) := Int.mul_le_mul_of_nonneg_left (by omega) (by omega)
  exact ⟨Int.mul_nonneg (by omega) m0, by omega⟩
theorem more2 {n d : Int} (n1 : 1 ≤ n) : 0 ≤ 20 / n ∧ 0 ≤ d % (1 + 20 / n) ∧ d % (1 + 20 / n) ≤ 20 := by
  have q0 : 0 ≤ 20 / n := Int.ediv_nonneg (by decide) (by omega)
  have q1 : 20 / n ≤ 20 := Int.ediv_le_self _ (by decide)
  have m0 := Int.emod_nonneg d (show 1 + 20 / n ≠ 0 by omega)
  have m1 := Int.emod_lt_of_pos d (show 0 < 1 + 20 / n by omega)
  exact ⟨q0, m0, by omega⟩
theorem mul_le3 {a n : Int} (a0 : 1 ≤ a) (a4 : a ≤ 4) (n0 : 1 ≤ n) : n ≤ a * n ∧ a * n ≤ 4 * n := by
  constructor
  · have := Int.mul_le_mul_of_nonneg_right a0 (show 0 ≤ n by omega)
    omega
  · exact Int.mul_le_mul_of_nonneg_right a4 (by omega)
theorem wfr {t : Pt} (w : WfW t.wrap) (s : t.slot ∈ wSlot) (e : t.empty ∈ wEmpty) (f : WfF t.full) (n : t.wen ∈ wWhen) (m : ∀ s b, t.wrap = .form s b → t.slot ≠ "mask") : Wf t := ⟨w, s, e, f, n, m⟩

theorem mod_ok {a n m : Int} (h : m % n = 0) : (a * n + m) % n = 0 := by
  rw [Int.add_emod, Int.mul_emod_left, h]; simp
theorem idx3 {b : Bool} {d : Int} (h : d < 2 + (if b then (1 : Int) else 0)) : d < ((3 : Nat) : Int) ∧ (d = ((2 : Nat) : Int) → b = true) := by
  cases b <;> simp at h ⊢ <;> omega
theorem wide_ok {d w : Int} (w0 : 0 ≤ w) (w1 : w ≤ 99) : 0 ≤ d % (1 + w + if decide (1 + w < 100) = true then 1 else 0) ∧ d % (1 + w + if decide (1 + w < 100) = true then 1 else 0) ≤ 99 ∧ d % (1 + w + if decide (1 + w < 100) = true then 1 else 0) ≤ 1 + w := by
  rcases (by omega : 1 + w < 100 ∨ 1 + w = 100) with h | h
  · rw [decide_eq_true h, if_pos rfl]
    have a := Int.emod_nonneg d (show 1 + w + 1 ≠ 0 by omega)
    have b := Int.emod_lt_of_pos d (show 0 < 1 + w + 1 by omega)
    exact ⟨a, by omega, by omega⟩
  · rw [decide_eq_false (show ¬ 1 + w < 100 by omega), if_neg (fun z => Bool.noConfusion z)]
    have a := Int.emod_nonneg d (show 1 + w + 0 ≠ 0 by omega)
    have b := Int.emod_lt_of_pos d (show 0 < 1 + w + 0 by omega)
    exact ⟨a, by omega, by omega⟩

theorem mul_le9 {M d : Int} (m1 : 1 ≤ M) (m2 : M ≤ 5000000000000000000000000000000) (d0 : 0 ≤ d) (d1 : d < 1000000000) : 0 ≤ M * d ∧ M * d ≤ 5000000000000000000000000000000 * 999999999 := by
  exact ⟨Int.mul_nonneg (by omega) d0, Int.mul_le_mul m2 (by omega) d0 (by decide)⟩
theorem mul_leF {M d : Int} (m1 : 1 ≤ M) (m2 : M ≤ 5000000000000000000000000000000) (d0 : 0 ≤ d) (d1 : d < 3) : M ≤ M * (1 + d) ∧ M * (1 + d) ≤ 5000000000000000000000000000000 * 3 := by
  constructor
  · have := Int.mul_le_mul_of_nonneg_left (show 1 ≤ 1 + d by omega) (show 0 ≤ M by omega)
    omega
  · exact Int.mul_le_mul m2 (by omega) (by omega) (by decide)
theorem mul_le1 {n d : Int} (n1 : 1 ≤ n) (d0 : 0 ≤ d) (d1 : d < 2) : 0 ≤ n * d ∧ n * d ≤ n := by
  rcases (by omega : d = 0 ∨ d = 1) with rfl | rfl
  · simp; omega
  · simp; omega
/-! what stands in the slots of a log, and what a taker sees of it -/
def cellV (n j t : Int) : Int := if t ≤ j then 0 else t - (t - 1 - j) % n
def cellsL (n : Nat) (t : Int) : List Int := (List.range n).map fun (j : Nat) => cellV n j t
theorem cells_len (n : Nat) (t : Int) : (cellsL n t).length = n := by unfold cellsL; rw [List.length_map, List.length_range]
theorem cells_zero (n : Nat) : cellsL n 0 = List.replicate n 0 := by
  rw [List.eq_replicate_iff]
  refine ⟨cells_len n 0, fun b hb => ?_⟩
  obtain ⟨i, _, rfl⟩ := List.mem_map.mp hb
  show cellV n i 0 = 0
  unfold cellV
  rw [if_pos (by omega)]
theorem cells_get {n i : Nat} {t : Int} (h : i < n) : (cellsL n t)[i]? = some (cellV n i t) := by
  unfold cellsL
  rw [List.getElem?_map, List.getElem?_range h]; rfl
theorem cells_at {n : Nat} {j t : Int} (h0 : 0 ≤ j) (h1 : j < (n : Int)) : atI ((cellsL n t).map V.int) j = some (.int (cellV n j t)) := by
  obtain ⟨i, rfl⟩ := Int.eq_ofNat_of_zero_le h0
  refine atI_nat ?_
  rw [List.getElem?_map, cells_get (by omega)]; rfl
theorem cell_same {n t : Int} (n1 : 1 ≤ n) (t0 : 0 ≤ t) : cellV n (t % n) (t + 1) = t + 1 := by
  have m1 := Int.emod_nonneg t (show n ≠ 0 by omega)
  have m2 : t % n ≤ t := by
    have := Int.emod_emod_of_dvd t (Int.dvd_refl n)
    rcases Int.lt_or_le t n with g | g
    · rw [Int.emod_eq_of_lt t0 g]; exact Int.le_refl _
    · have := Int.emod_lt_of_pos t (show 0 < n by omega); omega
  unfold cellV
  rw [if_neg (by omega), show t + 1 - 1 - t % n = t - t % n by omega, Int.sub_emod, Int.emod_emod, Int.sub_self, Int.zero_emod]
  omega
theorem cell_other {n t j : Int} (n1 : 1 ≤ n) (t0 : 0 ≤ t) (j0 : 0 ≤ j) (j1 : j < n) (h : j ≠ t % n) : cellV n j (t + 1) = cellV n j t := by
  unfold cellV
  rcases Int.lt_trichotomy t j with g | g | g
  · rw [if_pos (by omega), if_pos (by omega)]
  · exfalso; subst g; exact h (Int.emod_eq_of_lt t0 j1).symm
  · rw [if_neg (by omega), if_neg (by omega)]
    have a1 := Int.emod_nonneg (t - 1 - j) (show n ≠ 0 by omega)
    have a2 := Int.emod_lt_of_pos (t - 1 - j) (show 0 < n by omega)
    have z : (t - 1 - j) % n + 1 < n := by
      refine Classical.byContradiction fun y => ?_
      have e : (t - 1 - j) % n = n - 1 := by omega
      apply h
      have : (t - j) % n = 0 := by
        rw [show t - j = t - 1 - j + 1 by omega, Int.add_emod, e]
        rcases (by omega : n = 1 ∨ 1 < n) with q | q
        · subst q; simp
        · rw [Int.emod_eq_of_lt (show (0 : Int) ≤ 1 by decide) q, show n - 1 + 1 = n by omega, Int.emod_self]
      have d : t % n = (t - j + j) % n := by rw [show t - j + j = t by omega]
      rw [d, Int.add_emod, this, Int.zero_add, Int.emod_emod, Int.emod_eq_of_lt j0 j1]
    have e : (t + 1 - 1 - j) % n = (t - 1 - j) % n + 1 := by
      rw [show t + 1 - 1 - j = t - 1 - j + 1 by omega]
      have q : (t - 1 - j + 1) % n = ((t - 1 - j) % n + 1) % n := by rw [Int.emod_add_emod]
      rw [q, Int.emod_eq_of_lt (by omega) z]
    rw [e]; omega
theorem cells_step {n : Nat} {t : Int} (n1 : 1 ≤ n) (t0 : 0 ≤ t) : (cellsL n t).set (t % (n : Int)).toNat (t + 1) = cellsL n (t + 1) := by
  have m1 := Int.emod_nonneg t (show (n : Int) ≠ 0 by omega)
  have m2 := Int.emod_lt_of_pos t (show 0 < (n : Int) by omega)
  refine List.ext_getElem? fun i => ?_
  rcases Nat.lt_or_ge i n with g | g
  · rw [List.getElem?_set, cells_get g]
    by_cases e : (t % (n : Int)).toNat = i
    · rw [if_pos e, if_pos (by rw [cells_len]; omega), cells_get g]
      congr 1
      rw [show (i : Int) = t % (n : Int) by omega, cell_same (by omega) t0]
    · rw [if_neg e, cells_get g]
      congr 1
      exact (cell_other (by omega) t0 (by omega) (by omega) (by omega)).symm
  · rw [List.getElem?_eq_none (by rw [List.length_set, cells_len]; exact g), List.getElem?_eq_none (by rw [cells_len]; exact g)]
/-- n divides M -/
theorem mod_mod {c n M : Int} (d : M % n = 0) : c % M % n = c % n := Int.emod_emod_of_dvd c (Int.dvd_of_emod_eq_zero d)
def lostV (b n : Int) : Int := if b < n then 0 else b - n
theorem lost_law (b n : Int) : (if n < b then b - n else 0) = lostV b n := by unfold lostV; split <;> split <;> omega
/-- the slot in which the taker reads -/
def seenV (n M begin lag : Int) : Int := cellV n ((begin + lostV (lag % M) n) % n) (begin + lag)
theorem seen_near {n M begin lag : Int} (h : lag % M ≤ n) : (begin + lostV (lag % M) n) % n = begin % n := by
  unfold lostV
  split
  · rw [Int.add_zero]
  · rw [show begin + (lag % M - n) = begin + (lag % M - n) from rfl, show lag % M - n = 0 by omega, Int.add_zero]
theorem seen_far {n M begin lag : Int} (d : M % n = 0) (h : n < lag % M) : (begin + lostV (lag % M) n) % n = (begin + lag) % n := by
  unfold lostV
  rw [if_neg (by omega), show begin + (lag % M - n) = begin + lag % M - n by omega, Int.sub_emod_right, Int.add_emod, mod_mod d, ← Int.add_emod]
theorem mod_le {t n : Int} (n1 : 1 ≤ n) (t0 : 0 ≤ t) : t % n ≤ t := by
  rcases Int.lt_or_le t n with g | g
  · rw [Int.emod_eq_of_lt t0 g]; exact Int.le_refl _
  · have := Int.emod_lt_of_pos t (show 0 < n by omega); omega
/-- the oldest value that stands is seen just where the place is right -/
theorem fits_iff {n M begin lag : Int} (n1 : 1 ≤ n) (M1 : 1 ≤ M) (d : M % n = 0) (b0 : 0 ≤ begin) (l0 : 1 ≤ lag) (hb : 0 < lag % M) :
    seenV n M begin lag = begin + lag - (if n < lag then n else lag) + 1 ↔ (lag < M ∨ n ≤ lag % M) := by
  have hn := mod_mod (c := lag) d
  have nM : n ≤ M := Int.le_of_dvd (by omega) (Int.dvd_of_emod_eq_zero d)
  have m1 := Int.emod_lt_of_pos lag (show 0 < M by omega)
  have ml := mod_le M1 (show 0 ≤ lag by omega)
  unfold seenV
  rcases Int.lt_or_le n (lag % M) with g | g
  · rw [seen_far d g]
    have t0 := mod_le n1 (show 0 ≤ begin + lag by omega)
    have t1 := Int.emod_nonneg (begin + lag) (show n ≠ 0 by omega)
    have t2 := Int.emod_lt_of_pos (begin + lag) (show 0 < n by omega)
    have e : (begin + lag - 1 - (begin + lag) % n) % n = n - 1 := by
      rw [show begin + lag - 1 - (begin + lag) % n = begin + lag - (begin + lag) % n - 1 by omega, Int.sub_emod, Int.sub_emod (begin + lag), Int.emod_emod, Int.sub_self, Int.zero_emod, Int.zero_sub]
      rcases (by omega : n = 1 ∨ 1 < n) with q | q
      · subst q; simp
      · rw [Int.emod_eq_of_lt (show (0 : Int) ≤ 1 by decide) q]
        rw [show (-1 : Int) = n - 1 - n by omega, Int.sub_emod_right, Int.emod_eq_of_lt (by omega) (by omega)]
    unfold cellV
    rw [if_neg (by omega), e, if_pos (by omega)]
    constructor
    · intro _; right; omega
    · intro _; omega
  · rw [seen_near g]
    have t0 := mod_le n1 b0
    have t1 := Int.emod_nonneg begin (show n ≠ 0 by omega)
    have e : (begin + lag - 1 - begin % n) % n = (lag - 1) % n := by
      rw [show begin + lag - 1 - begin % n = (begin - begin % n) + (lag - 1) by omega, Int.add_emod, Int.sub_emod, Int.emod_emod, Int.sub_self, Int.zero_emod, Int.zero_add, Int.emod_emod]
    unfold cellV
    rw [if_neg (by omega), e]
    rcases Int.lt_or_le n lag with q | q
    · rw [if_pos q]
      have u1 := Int.emod_nonneg (lag - 1) (show n ≠ 0 by omega)
      have u2 := Int.emod_lt_of_pos (lag - 1) (show 0 < n by omega)
      have key : (lag - 1) % n = n - 1 ↔ lag % n = 0 := by
        have z : lag % n = ((lag - 1) % n + 1) % n := by rw [Int.emod_add_emod, show lag - 1 + 1 = lag by omega]
        constructor
        · intro h
          rw [z, h, show n - 1 + 1 = n by omega, Int.emod_self]
        · intro h
          refine Classical.byContradiction fun y => ?_
          rw [z, Int.emod_eq_of_lt (by omega) (by omega)] at h
          omega
      have key2 : lag % n = 0 ↔ lag % M = n := by
        rw [← hn]
        constructor
        · intro h
          refine Classical.byContradiction fun y => ?_
          rw [Int.emod_eq_of_lt (by omega) (by omega)] at h
          omega
        · intro h
          rw [h, Int.emod_self]
      have z : ¬ lag < M := fun y => by rw [Int.emod_eq_of_lt (by omega) y] at g; omega
      constructor
      · intro h
        right
        have := key2.mp (key.mp (by omega))
        omega
      · intro h
        have h' : n ≤ lag % M := h.resolve_left z
        have := key.mpr (key2.mpr (by omega))
        omega
    · rw [if_neg (by omega)]
      rw [Int.emod_eq_of_lt (by omega) (by omega)]
      constructor
      · intro _
        left
        refine Classical.byContradiction fun y => ?_
        have : lag = M := by omega
        rw [this, Int.emod_self] at hb
        omega
      · intro _; omega

/-- a log's fields, a reader's -/
def fL (M n c : Int) : List (Str × V) := [("modulus", .int M), ("size", .int n), ("_put_count", .int c)]
theorem fL_M (M n c : Int) : (fL M n c).lookup ("modulus" : Str) = some (V.int M) := by unfold fL; walk_at "lk"
theorem fL_n (M n c : Int) : (fL M n c).lookup ("size" : Str) = some (V.int n) := by unfold fL; walk_at "lk"
theorem fL_c (M n c : Int) : (fL M n c).lookup ("_put_count" : Str) = some (V.int c) := by unfold fL; walk_at "lk"
theorem fL_put (M n c : Int) : putF "_put_count" (.int c) (putF "size" (.int n) (putF "modulus" (.int M) [])) = fL M n c := by
  unfold fL
  simp only [L2.putF, q_modulus_size, q_modulus_put_count, q_size_put_count, if_false]
theorem fL_set (M n c c' : Int) : putF "_put_count" (.int c') (fL M n c) = fL M n c' := by
  unfold fL
  simp only [L2.putF, q_modulus_put_count, q_size_put_count, if_false, if_true]

local macro_rules | `(tactic| walk_at "lk") => `(tactic| first | exact fL_M _ _ _ | exact fL_n _ _ _ | exact fL_c _ _ _)
local macro_rules | `(tactic| walk_at "sfl") => `(tactic| first | (unfold fL; with_unfolding_all exact Nat.le_of_ble_eq_true rfl) | fail "sfl")
def IsLog (A : Adr) (H : Hp) (p : Addr) (M n c : Int) : Prop := ∃ dx, H p = some (.ins A.c_Log dx (fL M n c))

theorem andT {x y : V} (h : x = y) : (decide (x = y) && !false) = true := by rw [decide_eq_true h]; rfl
theorem cell_zero {n j : Int} (j0 : 0 ≤ j) : cellV n j ((0 : Nat) : Int) = 0 := by unfold cellV; rw [if_pos (by omega)]
theorem cell_hit {n j : Int} {i : Nat} (n1 : 1 ≤ n) (h : (i : Int) % n = j) : cellV n j ((i + 1 : Nat) : Int) = 1 + (i : Int) := by
  subst h
  rw [show ((i + 1 : Nat) : Int) = (i : Int) + 1 by omega, cell_same n1 (by omega)]; omega
theorem cell_miss {n j : Int} {i : Nat} (n1 : 1 ≤ n) (j0 : 0 ≤ j) (j1 : j < n) (h : ¬ (i : Int) % n = j) : cellV n j ((i + 1 : Nat) : Int) = cellV n j (i : Int) := by
  rw [show ((i + 1 : Nat) : Int) = (i : Int) + 1 by omega]
  exact cell_other n1 (by omega) j0 j1 (fun z => h z.symm)
theorem cell_far {n j t : Int} (n1 : 1 ≤ n) (j0 : 0 ≤ j) (j1 : j < n) (t0 : 0 ≤ t) : cellV n j t = if t - (t - 1 - j) % n < 1 then 0 else t - (t - 1 - j) % n := by
  unfold cellV
  rcases Int.lt_or_le j t with g | g
  · have m := mod_le n1 (show 0 ≤ t - 1 - j by omega)
    rw [if_neg (by omega), if_neg (by omega)]
  · have e : (t - 1 - j) % n = t - 1 - j + n := by
      rw [← Int.add_emod_right, Int.emod_eq_of_lt (by omega) (by omega)]
    rw [if_pos g, e, if_pos (by omega)]

theorem idxB {b : Bool} : 0 ≤ (if b = true then (1 : Int) else 0) ∧ (if b = true then (1 : Int) else 0) < ((2 : Nat) : Int) ∧ ((if b = true then (1 : Int) else 0) = ((0 : Nat) : Int) → b = false) ∧ ((if b = true then (1 : Int) else 0) = ((1 : Nat) : Int) → b = true) := by
  cases b <;> simp
theorem PoolO.updI {H : Hp} {a b C dx : Addr} {o u : HO} {fs : List (Str × V)} (h : PoolO H a o) (e : H b = some (.ins C dx fs)) : PoolO (upd H b u) a o := by
  obtain ⟨l, ns, i, v, c, g, e1, h1, h2, h3⟩ := h
  exact ⟨l, ns, i, v, c, g, e1, by rw [upd_ne (L2.ne_of h1 e (by intro z; cases z))]; exact h1, h2, h3⟩
theorem PoolO.sameF {H H' : Hp} {a : Addr} {o : HO} (S : Same H H') (h : PoolO H a o) : PoolO H' a o := h.same S
theorem PoolO.frmI {H H' : Hp} {a b C dx : Addr} {o : HO} {fs : List (Str × V)} (F : Frm b H H') (e : H b = some (.ins C dx fs)) (h : PoolO H a o) : PoolO H' a o := by
  obtain ⟨l, ns, i, v, c, g, e1, h1, h2, h3⟩ := h
  exact ⟨l, ns, i, v, c, g, e1, F _ _ h1 (L2.ne_of h1 e (by intro z; cases z)), h2, h3⟩
theorem PoolO.updN {H : Hp} {a b : Addr} {o u : HO} (n : H b = none) (h : PoolO H a o) : PoolO (upd H b u) a o := by
  obtain ⟨l, ns, i, v, c, g, e1, h1, h2, h3⟩ := h
  exact ⟨l, ns, i, v, c, g, e1, by rw [upd_ne (fun z => by rw [z, n] at h1; cases h1)]; exact h1, h2, h3⟩
local macro_rules | `(tactic| walk_at "pool") => `(tactic| first | with_reducible assumption | ((with_reducible apply PoolO.sameF); (· with_reducible assumption); (· walk_at "pool")) | ((with_reducible apply PoolO.updN); (· with_reducible assumption); (· walk_at "pool")) | ((with_reducible apply PoolO.updI); (· walk_at "pool"); (· walk_at "hp")) | ((with_reducible apply PoolO.frmI); (· with_reducible assumption); (· walk_at "hp"); (· walk_at "pool")) | ((with_reducible apply PoolO.same); (· with_reducible assumption); (· walk_at "frm")) | fail "pool")
local macro_rules | `(tactic| walk_at "bF") => `(tactic| first | exact nTrue rfl | fail "bF")
theorem bad3 {K : PySem.W.Frag} {H : Hp} {m : Int} {v : V} (h : v = .int (-1) ∨ (∃ i : Int, v = .int i ∧ 0 ≤ i ∧ m < i) ∨ v = .bl true) : BadM K H m v := by
  rcases h with rfl | ⟨i, rfl, h0, h1⟩ | rfl
  · exact .inl ⟨_, rfl, by decide⟩
  · exact .inr (.inl ⟨_, rfl, h0, h1⟩)
  · exact .inr (.inr (oddV_odd (.inr ⟨_, rfl⟩)))

section
variable {P : Program} {w : World} {K : PySem.W.Frag} {mg : Str → Option Value} {base : Heap} {A : Adr}
/-! has_outside -/
theorem sc_has_outside : FnScope ["kind", "n", "modulus"] ["kind", "n", "modulus"] (defScope s_has_outside) := ⟨rfl, rfl, rfl, by decide +kernel, rfl, by decide +kernel, by decide +kernel⟩
abbrev sp_has_outside (K : PySem.W.Frag) (A : Adr) : Sp := fun vs H Q _ => ∃ (k : Str) (n M : Int), vs = [.str k, .int n, .int M] ∧ 1 ≤ n ∧ n ≤ 1000000000000000000000000000000 ∧ Q (.bl (decide (k = "off" ∧ 2 * n < M))) H
theorem ok_has_outside (T : Txt w K mg A) : FnOk P w K mg base CX0 1 A.f_has_outside A.d_has_outside ["kind", "n", "modulus"] (sp_has_outside K A) := by
  refine T.F_has_outside.ok sc_has_outside (fun vs H Q E h => ?_) (fun cdv Ar outer s H vs Q E hr h => ?_)
  · obtain ⟨kd, n, M, rfl, n1, n2, k⟩ := h
    rfl
  · obtain ⟨kd, n, M, rfl, n1, n2, k⟩ := h
    have hu := hu_of hr
    have t_q_PART_NAMES := T.q_PART_NAMES
    have t_q_PART_WORDS_slot := T.q_PART_WORDS_slot
    have t_d_PART_WORDS_slot := T.d_PART_WORDS_slot
    have t_q_PART_WORDS_empty := T.q_PART_WORDS_empty
    have t_d_PART_WORDS_empty := T.d_PART_WORDS_empty
    have t_q_PART_WORDS_when := T.q_PART_WORDS_when
    have t_d_PART_WORDS_when := T.d_PART_WORDS_when
    have t_q_MEASURES := T.q_MEASURES
    have t_q_SIGNS := T.q_SIGNS
    have t_q_PLAIN_FULLS := T.q_PLAIN_FULLS
    have t_i_Form := T.i_Form
    have t_kt_Form_Form := T.kt_Form_Form
    have t_kt_int_Form := T.kt_int_Form
    have t_nf_Form_Form := T.nf_Form_Form
    have t_nf_int_Form := T.nf_int_Form
    have t_xm_NoSize_NoSize := T.xm_NoSize_NoSize
    have t_xm_NoRing_NoSize := T.xm_NoRing_NoSize
    have t_xm_NoRing_NoRing := T.xm_NoRing_NoRing
    have t_xm_NotDecided_NoSize := T.xm_NotDecided_NoSize
    have t_xm_NotDecided_NoRing := T.xm_NotDecided_NoRing
    have t_xm_NotDecided_NotDecided := T.xm_NotDecided_NotDecided
    have t_xm_NoLag_NoSize := T.xm_NoLag_NoSize
    have t_xm_NoLag_NoRing := T.xm_NoLag_NoRing
    have t_xm_NoLag_NotDecided := T.xm_NoLag_NotDecided
    have t_xm_NoLag_NoLag := T.xm_NoLag_NoLag
    have t_xm_Outside_Outside := T.xm_Outside_Outside
    have t_k_Form := T.k_Form
    have t_k_Scheme := T.k_Scheme
    have t_k_Log := T.k_Log
    rcases Decidable.em (kd = "off") with rfl | h
    · skip
      refine ⟨_, (pss_one (ps_ret (pe_and (pe_cmpR op_eq (pv 0) pe_str (nomark _)) (pe_one (pe_cmpR op_gt (pv 2) (pe_op op_mulW pe_int (pv 1)) (nomark _)))))), ?_⟩
      try dsimp only [L2.cxOf, L2.Cx.nox, L2.Cx.wish]
      with_reducible refine Rd.ret (Rd.andV (Rd.op (Rd.var (by walk_at "vr") (Rd.c (Rd.eqS (by walk_at "vr") (Rd.bl (Rd.iteT (by first | with_unfolding_all rfl | walk_at "bT") (Rd.op (Rd.var (by walk_at "vr") (Rd.op (Rd.c ?_)))))))))))
      with_reducible refine Rd.var (by walk_at "vr") (Rd.iC (by walk_at "scm") (Rd.i0 ?_))
      rw [show decide (("off" : Str) = "off" ∧ 2 * n < M) = decide (2 * n < M) from decide_eq_decide.mpr ⟨And.right, fun h => ⟨rfl, h⟩⟩] at k
      exact k
    · skip
      refine ⟨_, (pss_one (ps_ret (pe_and (pe_cmpR op_eq (pv 0) pe_str (nomark _)) (pe_one Rd.peN)))), ?_⟩
      try dsimp only [L2.cxOf, L2.Cx.nox, L2.Cx.wish]
      with_reducible refine Rd.ret (Rd.andV (Rd.op (Rd.var (by walk_at "vr") (Rd.c (Rd.eqS (by walk_at "vr") (Rd.bl (Rd.iteF (by walk_at "bF") ?_)))))))
      rw [decide_eq_false (fun z => h z.1)] at k
      exact k
/-! is_whole -/
theorem sc_is_whole : FnScope ["thing"] ["thing"] (defScope s_is_whole) := ⟨rfl, rfl, rfl, by decide +kernel, rfl, by decide +kernel, by decide +kernel⟩
abbrev sp_is_whole (K : PySem.W.Frag) (A : Adr) : Sp := fun vs H Q _ => ∃ y : V, vs = [y] ∧ ((∃ i : Int, y = .int i ∧ Q (.bl true) H) ∨ (Odd K H y ∧ Q (.bl false) H))
theorem ok_is_whole (T : Txt w K mg A) : FnOk P w K mg base CX0 1 A.f_is_whole A.d_is_whole ["thing"] (sp_is_whole K A) := by
  refine T.F_is_whole.ok sc_is_whole (fun vs H Q E h => ?_) (fun cdv Ar outer s H vs Q E hr h => ?_)
  · obtain ⟨y, rfl, hy⟩ := h
    rfl
  · obtain ⟨y, rfl, hy⟩ := h
    have hu := hu_of hr
    have t_q_PART_NAMES := T.q_PART_NAMES
    have t_q_PART_WORDS_slot := T.q_PART_WORDS_slot
    have t_d_PART_WORDS_slot := T.d_PART_WORDS_slot
    have t_q_PART_WORDS_empty := T.q_PART_WORDS_empty
    have t_d_PART_WORDS_empty := T.d_PART_WORDS_empty
    have t_q_PART_WORDS_when := T.q_PART_WORDS_when
    have t_d_PART_WORDS_when := T.d_PART_WORDS_when
    have t_q_MEASURES := T.q_MEASURES
    have t_q_SIGNS := T.q_SIGNS
    have t_q_PLAIN_FULLS := T.q_PLAIN_FULLS
    have t_i_Form := T.i_Form
    have t_kt_Form_Form := T.kt_Form_Form
    have t_kt_int_Form := T.kt_int_Form
    have t_nf_Form_Form := T.nf_Form_Form
    have t_nf_int_Form := T.nf_int_Form
    have t_xm_NoSize_NoSize := T.xm_NoSize_NoSize
    have t_xm_NoRing_NoSize := T.xm_NoRing_NoSize
    have t_xm_NoRing_NoRing := T.xm_NoRing_NoRing
    have t_xm_NotDecided_NoSize := T.xm_NotDecided_NoSize
    have t_xm_NotDecided_NoRing := T.xm_NotDecided_NoRing
    have t_xm_NotDecided_NotDecided := T.xm_NotDecided_NotDecided
    have t_xm_NoLag_NoSize := T.xm_NoLag_NoSize
    have t_xm_NoLag_NoRing := T.xm_NoLag_NoRing
    have t_xm_NoLag_NotDecided := T.xm_NoLag_NotDecided
    have t_xm_NoLag_NoLag := T.xm_NoLag_NoLag
    have t_xm_Outside_Outside := T.xm_Outside_Outside
    have t_k_Form := T.k_Form
    have t_k_Scheme := T.k_Scheme
    have t_k_Log := T.k_Log
    rcases hy with ⟨i, rfl, hk⟩ | ⟨⟨t, ty, kt | ⟨kt, kb⟩⟩, hk⟩
    · skip
      refine ⟨_, (pss_one (ps_ret (pe_and (pe_callB (Rd.isi (K := K) rfl) (by rfl) T.n_isinstance (by decide +kernel) (pa_cons (pv 0) (pa_cons (pe_bltn (v := .ty "int") (u := .type "int") (by rfl) T.n_int (by decide +kernel) rfl) pa_nil))) (pe_one (pe_not (pe_callB (Rd.isi (K := K) rfl) (by rfl) T.n_isinstance (by decide +kernel) (pa_cons (pv 0) (pa_cons (pe_bltn (v := .ty "bool") (u := .type "bool") (by rfl) T.n_bool (by decide +kernel) rfl) pa_nil)))))))), ?_⟩
      try dsimp only [L2.cxOf, L2.Cx.nox, L2.Cx.wish]
      with_reducible refine Rd.ret (Rd.andV (Rd.cB (Rd.cons (Rd.var (by walk_at "vr") (Rd.cons (Rd.c (Rd.nil ?_)))))))
      refine ⟨_, _, _, _, _, rfl, (by walk_at "clsv"), (by walk_at "tyx"), (by walk_at "kit"), ?_⟩
      with_reducible refine Rd.bl (Rd.iteT (by first | with_unfolding_all rfl | walk_at "bT") (Rd.notV (Rd.cB (Rd.cons (Rd.var (by walk_at "vr") (Rd.cons (Rd.c (Rd.nil ?_))))))))
      refine ⟨_, _, _, _, _, rfl, (by walk_at "clsv"), (by walk_at "tyx"), (by walk_at "kit"), ?_⟩
      with_reducible refine Rd.bl ?_
      exact hk
    · skip
      refine ⟨_, (pss_one (ps_ret (pe_and (pe_callB (Rd.isi (K := K) rfl) (by rfl) T.n_isinstance (by decide +kernel) (pa_cons (pv 0) (pa_cons (pe_bltn (v := .ty "int") (u := .type "int") (by rfl) T.n_int (by decide +kernel) rfl) pa_nil))) (pe_one Rd.peN)))), ?_⟩
      try dsimp only [L2.cxOf, L2.Cx.nox, L2.Cx.wish]
      with_reducible refine Rd.ret (Rd.andV (Rd.cB (Rd.cons (Rd.var (by walk_at "vr") (Rd.cons (Rd.c (Rd.nil ?_)))))))
      refine ⟨_, _, _, _, _, rfl, (by walk_at "clsv"), (by walk_at "tyx"), (by walk_at "kit"), ?_⟩
      with_reducible refine Rd.bl (Rd.iteF (by walk_at "bF") ?_)
      exact hk
    · skip
      refine ⟨_, (pss_one (ps_ret (pe_and (pe_callB (Rd.isi (K := K) rfl) (by rfl) T.n_isinstance (by decide +kernel) (pa_cons (pv 0) (pa_cons (pe_bltn (v := .ty "int") (u := .type "int") (by rfl) T.n_int (by decide +kernel) rfl) pa_nil))) (pe_one (pe_not (pe_callB (Rd.isi (K := K) rfl) (by rfl) T.n_isinstance (by decide +kernel) (pa_cons (pv 0) (pa_cons (pe_bltn (v := .ty "bool") (u := .type "bool") (by rfl) T.n_bool (by decide +kernel) rfl) pa_nil)))))))), ?_⟩
      try dsimp only [L2.cxOf, L2.Cx.nox, L2.Cx.wish]
      with_reducible refine Rd.ret (Rd.andV (Rd.cB (Rd.cons (Rd.var (by walk_at "vr") (Rd.cons (Rd.c (Rd.nil ?_)))))))
      refine ⟨_, _, _, _, _, rfl, (by walk_at "clsv"), (by walk_at "tyx"), (by walk_at "kit"), ?_⟩
      with_reducible refine Rd.bl (Rd.iteT (by walk_at "bT") (Rd.notV (Rd.cB (Rd.cons (Rd.var (by walk_at "vr") (Rd.cons (Rd.c (Rd.nil ?_))))))))
      refine ⟨_, _, _, _, _, rfl, (by walk_at "clsv"), (by walk_at "tyx"), (by walk_at "kit"), ?_⟩
      with_reducible refine Rd.bl ?_
      exact hk
/-! is_whole_from -/
theorem sc_is_whole_from : FnScope ["thing", "low", "high"] ["thing", "low", "high"] (defScope s_is_whole_from) := ⟨rfl, rfl, rfl, by decide +kernel, rfl, by decide +kernel, by decide +kernel⟩
abbrev sp_is_whole_from (K : PySem.W.Frag) (A : Adr) : Sp := fun vs H Q _ => ∃ (y : V) (lo hi : Int), vs = [y, .int lo, .int hi] ∧ ((∃ i : Int, y = .int i ∧ lo ≤ i ∧ i ≤ hi ∧ Q (.bl true) H) ∨ (∃ i : Int, y = .int i ∧ i < lo ∧ Q (.bl false) H) ∨ (∃ i : Int, y = .int i ∧ lo ≤ i ∧ hi < i ∧ Q (.bl false) H) ∨ (Odd K H y ∧ Q (.bl false) H))
theorem ok_is_whole_from (T : Txt w K mg A) : FnOk P w K mg base CX0 2 A.f_is_whole_from A.d_is_whole_from ["thing", "low", "high"] (sp_is_whole_from K A) := by
  refine T.F_is_whole_from.ok sc_is_whole_from (fun vs H Q E h => ?_) (fun cdv Ar outer s H vs Q E hr h => ?_)
  · obtain ⟨y, lo, hi, rfl, hy⟩ := h
    rfl
  · obtain ⟨y, lo, hi, rfl, hy⟩ := h
    have hu := hu_of hr
    have t_q_PART_NAMES := T.q_PART_NAMES
    have t_q_PART_WORDS_slot := T.q_PART_WORDS_slot
    have t_d_PART_WORDS_slot := T.d_PART_WORDS_slot
    have t_q_PART_WORDS_empty := T.q_PART_WORDS_empty
    have t_d_PART_WORDS_empty := T.d_PART_WORDS_empty
    have t_q_PART_WORDS_when := T.q_PART_WORDS_when
    have t_d_PART_WORDS_when := T.d_PART_WORDS_when
    have t_q_MEASURES := T.q_MEASURES
    have t_q_SIGNS := T.q_SIGNS
    have t_q_PLAIN_FULLS := T.q_PLAIN_FULLS
    have t_i_Form := T.i_Form
    have t_kt_Form_Form := T.kt_Form_Form
    have t_kt_int_Form := T.kt_int_Form
    have t_nf_Form_Form := T.nf_Form_Form
    have t_nf_int_Form := T.nf_int_Form
    have t_xm_NoSize_NoSize := T.xm_NoSize_NoSize
    have t_xm_NoRing_NoSize := T.xm_NoRing_NoSize
    have t_xm_NoRing_NoRing := T.xm_NoRing_NoRing
    have t_xm_NotDecided_NoSize := T.xm_NotDecided_NoSize
    have t_xm_NotDecided_NoRing := T.xm_NotDecided_NoRing
    have t_xm_NotDecided_NotDecided := T.xm_NotDecided_NotDecided
    have t_xm_NoLag_NoSize := T.xm_NoLag_NoSize
    have t_xm_NoLag_NoRing := T.xm_NoLag_NoRing
    have t_xm_NoLag_NotDecided := T.xm_NoLag_NotDecided
    have t_xm_NoLag_NoLag := T.xm_NoLag_NoLag
    have t_xm_Outside_Outside := T.xm_Outside_Outside
    have t_k_Form := T.k_Form
    have t_k_Scheme := T.k_Scheme
    have t_k_Log := T.k_Log
    rcases hy with ⟨i, rfl, h1, h2, hk⟩ | ⟨i, rfl, h1, hk⟩ | ⟨i, rfl, h1, h2, hk⟩ | ⟨ho, hk⟩
    · skip
      refine ⟨_, (pss_one (ps_ret (pe_and (pe_call (ok_is_whole T) (hr.mono (by decide)) (by rfl) T.m_is_whole T.F_is_whole.kp T.b_is_whole .nil pass0 (pa_cons (pv 0) pa_nil)) (pe_one (pe_chain op_le op_le (pv 1) (pv 0) (pv 2)))))), ?_⟩
      try dsimp only [L2.cxOf, L2.Cx.nox, L2.Cx.wish]
      with_reducible refine Rd.ret (Rd.andV (Rd.call (Rd.cons (Rd.var (by walk_at "vr") (Rd.nil ?_)))))
      refine ⟨_, rfl, .inl ⟨_, rfl, ?_⟩⟩
      with_reducible refine Rd.bl (Rd.iteT (by walk_at "bT") (Rd.chain (Rd.var (by walk_at "vr") (Rd.var (by walk_at "vr") (Rd.i0 (Rd.bl (Rd.iteT (by walk_at "bT") (Rd.var (by walk_at "vr") (Rd.i0 ?_)))))))))
      rw [decide_eq_true h2]
      exact hk
    · skip
      refine ⟨_, (pss_one (ps_ret (pe_and (pe_call (ok_is_whole T) (hr.mono (by decide)) (by rfl) T.m_is_whole T.F_is_whole.kp T.b_is_whole .nil pass0 (pa_cons (pv 0) pa_nil)) (pe_one (pe_chain op_le op_le (pv 1) (pv 0) Rd.peN))))), ?_⟩
      try dsimp only [L2.cxOf, L2.Cx.nox, L2.Cx.wish]
      with_reducible refine Rd.ret (Rd.andV (Rd.call (Rd.cons (Rd.var (by walk_at "vr") (Rd.nil ?_)))))
      refine ⟨_, rfl, .inl ⟨_, rfl, ?_⟩⟩
      with_reducible refine Rd.bl (Rd.iteT (by walk_at "bT") (Rd.chain (Rd.var (by walk_at "vr") (Rd.var (by walk_at "vr") (Rd.i0 (Rd.bl (Rd.iteF (by walk_at "bF") ?_)))))))
      exact hk
    · skip
      refine ⟨_, (pss_one (ps_ret (pe_and (pe_call (ok_is_whole T) (hr.mono (by decide)) (by rfl) T.m_is_whole T.F_is_whole.kp T.b_is_whole .nil pass0 (pa_cons (pv 0) pa_nil)) (pe_one (pe_chain op_le op_le (pv 1) (pv 0) (pv 2)))))), ?_⟩
      try dsimp only [L2.cxOf, L2.Cx.nox, L2.Cx.wish]
      with_reducible refine Rd.ret (Rd.andV (Rd.call (Rd.cons (Rd.var (by walk_at "vr") (Rd.nil ?_)))))
      refine ⟨_, rfl, .inl ⟨_, rfl, ?_⟩⟩
      with_reducible refine Rd.bl (Rd.iteT (by walk_at "bT") (Rd.chain (Rd.var (by walk_at "vr") (Rd.var (by walk_at "vr") (Rd.i0 (Rd.bl (Rd.iteT (by walk_at "bT") (Rd.var (by walk_at "vr") (Rd.i0 ?_)))))))))
      rw [decide_eq_false (by omega)]
      exact hk
    · skip
      refine ⟨_, (pss_one (ps_ret (pe_and (pe_call (ok_is_whole T) (hr.mono (by decide)) (by rfl) T.m_is_whole T.F_is_whole.kp T.b_is_whole .nil pass0 (pa_cons (pv 0) pa_nil)) (pe_one Rd.peN)))), ?_⟩
      try dsimp only [L2.cxOf, L2.Cx.nox, L2.Cx.wish]
      with_reducible refine Rd.ret (Rd.andV (Rd.call (Rd.cons (Rd.var (by walk_at "vr") (Rd.nil ?_)))))
      refine ⟨_, rfl, .inr ⟨(by with_reducible assumption), ?_⟩⟩
      with_reducible refine Rd.bl (Rd.iteF (by walk_at "bF") ?_)
      exact hk
/-! is_word_of -/
theorem sc_is_word_of : FnScope ["thing", "words"] ["thing", "words"] (defScope s_is_word_of) := ⟨rfl, rfl, rfl, by decide +kernel, rfl, by decide +kernel, by decide +kernel⟩
def sp_is_word_of (P : Program) (w : World) (mg : Str → Option Value) (base : Heap) (K : PySem.W.Frag) (A : Adr) : Sp := fun vs H Q E => vs.length = 2 ∧ ∀ (cdv : Value) (Ar : Around) (outer : List Env) (s : Shared), Room 0 (Ar.deeper (PyProof.Rows.envOfC "is_word_of" (defScope s_is_word_of) s.heap.objs.size A.f_is_word_of cdv)) → ∃ t, PSs (cxOf CX0 P w K mg base ["thing", "words"] "is_word_of" (defScope s_is_word_of) A.f_is_word_of cdv Ar outer s H E).nox (defBody s_is_word_of) t ∧ t { nx := fun _ H' => Q .non H', rt := Q } (start ["thing", "words"] vs) H
theorem in_is_word_of {vs : List V} {H : Hp} {Q : VK} {E : XK} (h : ∀ (cdv : Value) (Ar : Around) (outer : List Env) (s : Shared), Room 0 (Ar.deeper (PyProof.Rows.envOfC "is_word_of" (defScope s_is_word_of) s.heap.objs.size A.f_is_word_of cdv)) → ∃ t, PSs (cxOf CX0 P w K mg base ["thing", "words"] "is_word_of" (defScope s_is_word_of) A.f_is_word_of cdv Ar outer s H E).nox (defBody s_is_word_of) t ∧ t { nx := fun _ H' => Q .non H', rt := Q } (start ["thing", "words"] vs) H) (e : vs.length = 2) : sp_is_word_of P w mg base K A vs H Q E := ⟨e, h⟩
theorem ok_is_word_of (T : Txt w K mg A) : FnOk P w K mg base CX0 1 A.f_is_word_of A.d_is_word_of ["thing", "words"] (sp_is_word_of P w mg base K A) := T.F_is_word_of.ok sc_is_word_of (fun _ _ _ _ h => h.1) (fun cdv Ar outer s H vs Q E hr h => h.2 cdv Ar outer s hr)
/-! is_size -/
theorem sc_is_size : FnScope ["thing"] ["thing"] (defScope s_is_size) := ⟨rfl, rfl, rfl, by decide +kernel, rfl, by decide +kernel, by decide +kernel⟩
abbrev sp_is_size (K : PySem.W.Frag) (A : Adr) : Sp := fun vs H Q _ => ∃ y : V, vs = [y] ∧ ((∃ i : Int, y = .int i ∧ 1 ≤ i ∧ i ≤ 1000000000000000000000000000000 ∧ Q (.bl true) H) ∨ (∃ i : Int, y = .int i ∧ i < 1 ∧ Q (.bl false) H) ∨ (∃ i : Int, y = .int i ∧ 1 ≤ i ∧ 1000000000000000000000000000000 < i ∧ Q (.bl false) H) ∨ (Odd K H y ∧ Q (.bl false) H))
theorem ok_is_size (T : Txt w K mg A) : FnOk P w K mg base CX0 3 A.f_is_size A.d_is_size ["thing"] (sp_is_size K A) := by
  refine T.F_is_size.ok sc_is_size (fun vs H Q E h => ?_) (fun cdv Ar outer s H vs Q E hr h => ?_)
  · obtain ⟨y, rfl, hy⟩ := h
    rfl
  · obtain ⟨y, rfl, hy⟩ := h
    have hu := hu_of hr
    have t_q_PART_NAMES := T.q_PART_NAMES
    have t_q_PART_WORDS_slot := T.q_PART_WORDS_slot
    have t_d_PART_WORDS_slot := T.d_PART_WORDS_slot
    have t_q_PART_WORDS_empty := T.q_PART_WORDS_empty
    have t_d_PART_WORDS_empty := T.d_PART_WORDS_empty
    have t_q_PART_WORDS_when := T.q_PART_WORDS_when
    have t_d_PART_WORDS_when := T.d_PART_WORDS_when
    have t_q_MEASURES := T.q_MEASURES
    have t_q_SIGNS := T.q_SIGNS
    have t_q_PLAIN_FULLS := T.q_PLAIN_FULLS
    have t_i_Form := T.i_Form
    have t_kt_Form_Form := T.kt_Form_Form
    have t_kt_int_Form := T.kt_int_Form
    have t_nf_Form_Form := T.nf_Form_Form
    have t_nf_int_Form := T.nf_int_Form
    have t_xm_NoSize_NoSize := T.xm_NoSize_NoSize
    have t_xm_NoRing_NoSize := T.xm_NoRing_NoSize
    have t_xm_NoRing_NoRing := T.xm_NoRing_NoRing
    have t_xm_NotDecided_NoSize := T.xm_NotDecided_NoSize
    have t_xm_NotDecided_NoRing := T.xm_NotDecided_NoRing
    have t_xm_NotDecided_NotDecided := T.xm_NotDecided_NotDecided
    have t_xm_NoLag_NoSize := T.xm_NoLag_NoSize
    have t_xm_NoLag_NoRing := T.xm_NoLag_NoRing
    have t_xm_NoLag_NotDecided := T.xm_NoLag_NotDecided
    have t_xm_NoLag_NoLag := T.xm_NoLag_NoLag
    have t_xm_Outside_Outside := T.xm_Outside_Outside
    have t_k_Form := T.k_Form
    have t_k_Scheme := T.k_Scheme
    have t_k_Log := T.k_Log
    rcases hy with ⟨i, rfl, h1, h2, hk⟩ | ⟨i, rfl, h1, hk⟩ | ⟨i, rfl, h1, h2, hk⟩ | ⟨ho, hk⟩
    · skip
      refine ⟨_, (pss_one (ps_ret (pe_call (ok_is_whole_from T) (hr.mono (by decide)) (by rfl) T.m_is_whole_from T.F_is_whole_from.kp T.b_is_whole_from .nil pass0 (pa_cons (pv 0) (pa_cons pe_int (pa_cons (pe_glob (v := .int (1000000000000000000000000000000)) rfl T.m_GREATEST_SIZE ⟨_, rfl⟩) pa_nil)))))), ?_⟩
      try dsimp only [L2.cxOf, L2.Cx.nox, L2.Cx.wish]
      with_reducible refine Rd.ret (Rd.call (Rd.cons (Rd.var (by walk_at "vr") (Rd.cons (Rd.c (Rd.cons (Rd.c (Rd.nil ?_))))))))
      refine ⟨_, _, _, rfl, .inl ⟨_, rfl, (by walk_at "sc"), (by walk_at "sc"), ?_⟩⟩
      exact hk
    · skip
      refine ⟨_, (pss_one (ps_ret (pe_call (ok_is_whole_from T) (hr.mono (by decide)) (by rfl) T.m_is_whole_from T.F_is_whole_from.kp T.b_is_whole_from .nil pass0 (pa_cons (pv 0) (pa_cons pe_int (pa_cons (pe_glob (v := .int (1000000000000000000000000000000)) rfl T.m_GREATEST_SIZE ⟨_, rfl⟩) pa_nil)))))), ?_⟩
      try dsimp only [L2.cxOf, L2.Cx.nox, L2.Cx.wish]
      with_reducible refine Rd.ret (Rd.call (Rd.cons (Rd.var (by walk_at "vr") (Rd.cons (Rd.c (Rd.cons (Rd.c (Rd.nil ?_))))))))
      refine ⟨_, _, _, rfl, .inr (.inl ⟨_, rfl, (by walk_at "sc"), ?_⟩)⟩
      exact hk
    · skip
      refine ⟨_, (pss_one (ps_ret (pe_call (ok_is_whole_from T) (hr.mono (by decide)) (by rfl) T.m_is_whole_from T.F_is_whole_from.kp T.b_is_whole_from .nil pass0 (pa_cons (pv 0) (pa_cons pe_int (pa_cons (pe_glob (v := .int (1000000000000000000000000000000)) rfl T.m_GREATEST_SIZE ⟨_, rfl⟩) pa_nil)))))), ?_⟩
      try dsimp only [L2.cxOf, L2.Cx.nox, L2.Cx.wish]
      with_reducible refine Rd.ret (Rd.call (Rd.cons (Rd.var (by walk_at "vr") (Rd.cons (Rd.c (Rd.cons (Rd.c (Rd.nil ?_))))))))
      refine ⟨_, _, _, rfl, .inr (.inr (.inl ⟨_, rfl, (by walk_at "sc"), (by walk_at "sc"), ?_⟩))⟩
      exact hk
    · skip
      refine ⟨_, (pss_one (ps_ret (pe_call (ok_is_whole_from T) (hr.mono (by decide)) (by rfl) T.m_is_whole_from T.F_is_whole_from.kp T.b_is_whole_from .nil pass0 (pa_cons (pv 0) (pa_cons pe_int (pa_cons (pe_glob (v := .int (1000000000000000000000000000000)) rfl T.m_GREATEST_SIZE ⟨_, rfl⟩) pa_nil)))))), ?_⟩
      try dsimp only [L2.cxOf, L2.Cx.nox, L2.Cx.wish]
      with_reducible refine Rd.ret (Rd.call (Rd.cons (Rd.var (by walk_at "vr") (Rd.cons (Rd.c (Rd.cons (Rd.c (Rd.nil ?_))))))))
      refine ⟨_, _, _, rfl, .inr (.inr (.inr ⟨(by with_reducible assumption), ?_⟩))⟩
      exact hk
/-! check_size -/
theorem sc_check_size : FnScope ["n"] ["n"] (defScope s_check_size) := ⟨rfl, rfl, rfl, by decide +kernel, rfl, by decide +kernel, by decide +kernel⟩
abbrev sp_check_size (K : PySem.W.Frag) (A : Adr) : Sp := fun vs H Q E => ∃ y : V, vs = [y] ∧ ((∃ i : Int, y = .int i ∧ 1 ≤ i ∧ i ≤ 1000000000000000000000000000000 ∧ Q .non H) ∨ (∃ i : Int, y = .int i ∧ i < 1 ∧ E (.ref A.c_NoSize) none H) ∨ (∃ i : Int, y = .int i ∧ 1 ≤ i ∧ 1000000000000000000000000000000 < i ∧ E (.ref A.c_NoSize) none H) ∨ (Odd K H y ∧ E (.ref A.c_NoSize) none H))
theorem ok_check_size (T : Txt w K mg A) : FnOk P w K mg base (L2.CX P w) 4 A.f_check_size A.d_check_size ["n"] (sp_check_size K A) := by
  refine T.F_check_size.okX sc_check_size (fun vs H Q E h => ?_) (fun cdv Ar outer s H vs Q E hr h => ?_)
  · obtain ⟨y, rfl, hy⟩ := h
    rfl
  · obtain ⟨y, rfl, hy⟩ := h
    have hu := hu_of hr
    have t_q_PART_NAMES := T.q_PART_NAMES
    have t_q_PART_WORDS_slot := T.q_PART_WORDS_slot
    have t_d_PART_WORDS_slot := T.d_PART_WORDS_slot
    have t_q_PART_WORDS_empty := T.q_PART_WORDS_empty
    have t_d_PART_WORDS_empty := T.d_PART_WORDS_empty
    have t_q_PART_WORDS_when := T.q_PART_WORDS_when
    have t_d_PART_WORDS_when := T.d_PART_WORDS_when
    have t_q_MEASURES := T.q_MEASURES
    have t_q_SIGNS := T.q_SIGNS
    have t_q_PLAIN_FULLS := T.q_PLAIN_FULLS
    have t_i_Form := T.i_Form
    have t_kt_Form_Form := T.kt_Form_Form
    have t_kt_int_Form := T.kt_int_Form
    have t_nf_Form_Form := T.nf_Form_Form
    have t_nf_int_Form := T.nf_int_Form
    have t_xm_NoSize_NoSize := T.xm_NoSize_NoSize
    have t_xm_NoRing_NoSize := T.xm_NoRing_NoSize
    have t_xm_NoRing_NoRing := T.xm_NoRing_NoRing
    have t_xm_NotDecided_NoSize := T.xm_NotDecided_NoSize
    have t_xm_NotDecided_NoRing := T.xm_NotDecided_NoRing
    have t_xm_NotDecided_NotDecided := T.xm_NotDecided_NotDecided
    have t_xm_NoLag_NoSize := T.xm_NoLag_NoSize
    have t_xm_NoLag_NoRing := T.xm_NoLag_NoRing
    have t_xm_NoLag_NotDecided := T.xm_NoLag_NotDecided
    have t_xm_NoLag_NoLag := T.xm_NoLag_NoLag
    have t_xm_Outside_Outside := T.xm_Outside_Outside
    have t_k_Form := T.k_Form
    have t_k_Scheme := T.k_Scheme
    have t_k_Log := T.k_Log
    rcases hy with ⟨i, rfl, h1, h2, hk⟩ | ⟨i, rfl, h1, hk⟩ | ⟨i, rfl, h1, h2, hk⟩ | ⟨ho, hk⟩
    · skip
      refine ⟨_, (pss_one (ps_if (pt_not (pt_val (pe_call (ok_is_size T) (hr.mono (by decide)) (by rfl) T.m_is_size T.F_is_size.kp T.b_is_size .nil pass0 (pa_cons (pv 0) pa_nil)))) (pss_one ps_never) pss_nil)), ?_⟩
      try dsimp only [L2.cxOf, L2.Cx.nox, L2.Cx.wish]
      with_reducible refine Rd.ifS (Rd.not (Rd.tb (Rd.call (Rd.cons (Rd.var (by walk_at "vr") (Rd.nil ?_))))))
      refine ⟨_, rfl, .inl ⟨_, rfl, (by walk_at "sc"), (by walk_at "sc"), ?_⟩⟩
      with_reducible refine Rd.bl (Rd.iteF (by walk_at "bF") (Rd.next ?_))
      exact hk
    · skip
      refine ⟨_, (pss_one (ps_if (pt_not (pt_val (pe_call (ok_is_size T) (hr.mono (by decide)) (by rfl) T.m_is_size T.F_is_size.kp T.b_is_size .nil pass0 (pa_cons (pv 0) pa_nil)))) (pss_one (ps_raise rfl (takes_of rfl rfl rfl rfl) (pmk_own PySem.F.excBase_ValueError T.x_NoSize T.m_NoSize T.kp_NoSize (raises_own T.sb_NoSize T.tc_NoSize) rfl))) pss_nil)), ?_⟩
      try dsimp only [L2.cxOf, L2.Cx.nox, L2.Cx.wish]
      with_reducible refine Rd.ifS (Rd.not (Rd.tb (Rd.call (Rd.cons (Rd.var (by walk_at "vr") (Rd.nil ?_))))))
      refine ⟨_, rfl, .inr (.inl ⟨_, rfl, (by walk_at "sc"), ?_⟩)⟩
      with_reducible refine Rd.bl (Rd.iteT (by walk_at "bT") ?_)
      exact hk
    · skip
      refine ⟨_, (pss_one (ps_if (pt_not (pt_val (pe_call (ok_is_size T) (hr.mono (by decide)) (by rfl) T.m_is_size T.F_is_size.kp T.b_is_size .nil pass0 (pa_cons (pv 0) pa_nil)))) (pss_one (ps_raise rfl (takes_of rfl rfl rfl rfl) (pmk_own PySem.F.excBase_ValueError T.x_NoSize T.m_NoSize T.kp_NoSize (raises_own T.sb_NoSize T.tc_NoSize) rfl))) pss_nil)), ?_⟩
      try dsimp only [L2.cxOf, L2.Cx.nox, L2.Cx.wish]
      with_reducible refine Rd.ifS (Rd.not (Rd.tb (Rd.call (Rd.cons (Rd.var (by walk_at "vr") (Rd.nil ?_))))))
      refine ⟨_, rfl, .inr (.inr (.inl ⟨_, rfl, (by walk_at "sc"), (by walk_at "sc"), ?_⟩))⟩
      with_reducible refine Rd.bl (Rd.iteT (by walk_at "bT") ?_)
      exact hk
    · skip
      refine ⟨_, (pss_one (ps_if (pt_not (pt_val (pe_call (ok_is_size T) (hr.mono (by decide)) (by rfl) T.m_is_size T.F_is_size.kp T.b_is_size .nil pass0 (pa_cons (pv 0) pa_nil)))) (pss_one (ps_raise rfl (takes_of rfl rfl rfl rfl) (pmk_own PySem.F.excBase_ValueError T.x_NoSize T.m_NoSize T.kp_NoSize (raises_own T.sb_NoSize T.tc_NoSize) rfl))) pss_nil)), ?_⟩
      try dsimp only [L2.cxOf, L2.Cx.nox, L2.Cx.wish]
      with_reducible refine Rd.ifS (Rd.not (Rd.tb (Rd.call (Rd.cons (Rd.var (by walk_at "vr") (Rd.nil ?_))))))
      refine ⟨_, rfl, .inr (.inr (.inr ⟨(by with_reducible assumption), ?_⟩))⟩
      with_reducible refine Rd.bl (Rd.iteT (by walk_at "bT") ?_)
      exact hk
/-! Form.__init__ -/
theorem sc_Formu__initu_ : FnScope ["self", "slope", "base"] ["self", "slope", "base"] (defScope s_Formu__initu_) := ⟨rfl, rfl, rfl, by decide +kernel, rfl, by decide +kernel, by decide +kernel⟩
abbrev sp_Formu__initu_ (K : PySem.W.Frag) (A : Adr) : Sp := fun vs H Q _ => ∃ (p dx : Addr) (s b : Int), vs = [.ref p, .int s, .int b] ∧ H p = some (.ins A.c_Form dx []) ∧ Q .non (upd H p (.ins A.c_Form dx (fF s b)))
theorem ok_Formu__initu_ (T : Txt w K mg A) : FnOk P w K mg base CX0 2 A.f_Formu__initu_ A.d_Formu__initu_ ["self", "slope", "base"] (sp_Formu__initu_ K A) := by
  refine T.F_Formu__initu_.ok sc_Formu__initu_ (fun vs H Q E h => ?_) (fun cdv Ar outer s H vs Q E hr h => ?_)
  · obtain ⟨p, dx, s, b, rfl, hp, k⟩ := h
    rfl
  · obtain ⟨p, dx, s, b, rfl, hp, k⟩ := h
    have hu := hu_of hr
    have t_q_PART_NAMES := T.q_PART_NAMES
    have t_q_PART_WORDS_slot := T.q_PART_WORDS_slot
    have t_d_PART_WORDS_slot := T.d_PART_WORDS_slot
    have t_q_PART_WORDS_empty := T.q_PART_WORDS_empty
    have t_d_PART_WORDS_empty := T.d_PART_WORDS_empty
    have t_q_PART_WORDS_when := T.q_PART_WORDS_when
    have t_d_PART_WORDS_when := T.d_PART_WORDS_when
    have t_q_MEASURES := T.q_MEASURES
    have t_q_SIGNS := T.q_SIGNS
    have t_q_PLAIN_FULLS := T.q_PLAIN_FULLS
    have t_i_Form := T.i_Form
    have t_kt_Form_Form := T.kt_Form_Form
    have t_kt_int_Form := T.kt_int_Form
    have t_nf_Form_Form := T.nf_Form_Form
    have t_nf_int_Form := T.nf_int_Form
    have t_xm_NoSize_NoSize := T.xm_NoSize_NoSize
    have t_xm_NoRing_NoSize := T.xm_NoRing_NoSize
    have t_xm_NoRing_NoRing := T.xm_NoRing_NoRing
    have t_xm_NotDecided_NoSize := T.xm_NotDecided_NoSize
    have t_xm_NotDecided_NoRing := T.xm_NotDecided_NoRing
    have t_xm_NotDecided_NotDecided := T.xm_NotDecided_NotDecided
    have t_xm_NoLag_NoSize := T.xm_NoLag_NoSize
    have t_xm_NoLag_NoRing := T.xm_NoLag_NoRing
    have t_xm_NoLag_NotDecided := T.xm_NoLag_NotDecided
    have t_xm_NoLag_NoLag := T.xm_NoLag_NoLag
    have t_xm_Outside_Outside := T.xm_Outside_Outside
    have t_k_Form := T.k_Form
    have t_k_Scheme := T.k_Scheme
    have t_k_Log := T.k_Log
    refine ⟨_, (pss_cons (ps_if (PW.pt (pw_or (pt_not (pt_val (pe_call (ok_is_whole T) (hr.mono (by decide)) (by rfl) T.m_is_whole T.F_is_whole.kp T.b_is_whole .nil pass0 (pa_cons (pv 1) pa_nil)))) (pw_or1 (pt_not (pt_val (pe_call (ok_is_whole T) (hr.mono (by decide)) (by rfl) T.m_is_whole T.F_is_whole.kp T.b_is_whole .nil pass0 (pa_cons (pv 2) pa_nil))))))) (pss_one ps_never) pss_nil)
      (pss_cons (ps_fld (pv 0) (pv 1) rfl)
      (pss_one (ps_fld (pv 0) (pv 2) rfl)))), ?_⟩
    try dsimp only [L2.cxOf, L2.Cx.nox, L2.Cx.wish]
    with_reducible refine Rd.seq (Rd.ifS (Rd.or (Rd.not (Rd.tb (Rd.call (Rd.cons (Rd.var (by walk_at "vr") (Rd.nil ?_))))))))
    refine ⟨_, rfl, .inl ⟨_, rfl, ?_⟩⟩
    with_reducible refine Rd.bl (Rd.iteF (by walk_at "bF") (Rd.not (Rd.tb (Rd.call (Rd.cons (Rd.var (by walk_at "vr") (Rd.nil ?_)))))))
    refine ⟨_, rfl, .inl ⟨_, rfl, ?_⟩⟩
    with_reducible refine Rd.bl (Rd.iteF (by walk_at "bF") (Rd.next (Rd.seq (Rd.sfld (Rd.var (by walk_at "vr") (Rd.var (by walk_at "vr") (⟨_, _, _, _, rfl, (by walk_at "hp"), T.k_Form, T.n_Form_slope, (by walk_at "sfl"), (Rd.sfld (Rd.var (by walk_at "vr") (Rd.var (by walk_at "vr") (⟨_, _, _, _, rfl, (by walk_at "hp"), T.k_Form, T.n_Form_base, (by walk_at "sfl"), ?_⟩))))⟩)))))))
    rw [L2.upd_upd, fF_put]
    exact k
/-! form_at -/
theorem sc_form_at : FnScope ["form", "n"] ["form", "n"] (defScope s_form_at) := ⟨rfl, rfl, rfl, by decide +kernel, rfl, by decide +kernel, by decide +kernel⟩
abbrev sp_form_at (K : PySem.W.Frag) (A : Adr) : Sp := fun vs H Q _ => ∃ (p dx : Addr) (s b n : Int), vs = [.ref p, .int n] ∧ H p = some (.ins A.c_Form dx (fF s b)) ∧ (-(2 ^ 190) < s ∧ s < 2 ^ 190) ∧ (-(2 ^ 190) < n ∧ n < 2 ^ 190) ∧ Q (.int (s * n + b)) H
theorem ok_form_at (T : Txt w K mg A) : FnOk P w K mg base CX0 1 A.f_form_at A.d_form_at ["form", "n"] (sp_form_at K A) := by
  refine T.F_form_at.ok sc_form_at (fun vs H Q E h => ?_) (fun cdv Ar outer s H vs Q E hr h => ?_)
  · obtain ⟨p, dx, s, b, n, rfl, hp, hs, hn, k⟩ := h
    rfl
  · obtain ⟨p, dx, s, b, n, rfl, hp, hs, hn, k⟩ := h
    have hu := hu_of hr
    have t_q_PART_NAMES := T.q_PART_NAMES
    have t_q_PART_WORDS_slot := T.q_PART_WORDS_slot
    have t_d_PART_WORDS_slot := T.d_PART_WORDS_slot
    have t_q_PART_WORDS_empty := T.q_PART_WORDS_empty
    have t_d_PART_WORDS_empty := T.d_PART_WORDS_empty
    have t_q_PART_WORDS_when := T.q_PART_WORDS_when
    have t_d_PART_WORDS_when := T.d_PART_WORDS_when
    have t_q_MEASURES := T.q_MEASURES
    have t_q_SIGNS := T.q_SIGNS
    have t_q_PLAIN_FULLS := T.q_PLAIN_FULLS
    have t_i_Form := T.i_Form
    have t_kt_Form_Form := T.kt_Form_Form
    have t_kt_int_Form := T.kt_int_Form
    have t_nf_Form_Form := T.nf_Form_Form
    have t_nf_int_Form := T.nf_int_Form
    have t_xm_NoSize_NoSize := T.xm_NoSize_NoSize
    have t_xm_NoRing_NoSize := T.xm_NoRing_NoSize
    have t_xm_NoRing_NoRing := T.xm_NoRing_NoRing
    have t_xm_NotDecided_NoSize := T.xm_NotDecided_NoSize
    have t_xm_NotDecided_NoRing := T.xm_NotDecided_NoRing
    have t_xm_NotDecided_NotDecided := T.xm_NotDecided_NotDecided
    have t_xm_NoLag_NoSize := T.xm_NoLag_NoSize
    have t_xm_NoLag_NoRing := T.xm_NoLag_NoRing
    have t_xm_NoLag_NotDecided := T.xm_NoLag_NotDecided
    have t_xm_NoLag_NoLag := T.xm_NoLag_NoLag
    have t_xm_Outside_Outside := T.xm_Outside_Outside
    have t_k_Form := T.k_Form
    have t_k_Scheme := T.k_Scheme
    have t_k_Log := T.k_Log
    refine ⟨_, (pss_one (ps_ret (pe_op op_add (pe_op op_mulW (pe_fld (pv 0) rfl) (pv 1)) (pe_fld (pv 0) rfl)))), ?_⟩
    try dsimp only [L2.cxOf, L2.Cx.nox, L2.Cx.wish]
    with_reducible refine Rd.ret (Rd.op (Rd.op (Rd.fld (Rd.var (by walk_at "vr") (⟨_, _, _, _, _, rfl, (by walk_at "hp"), T.k_Form, T.n_Form_slope, (by walk_at "lk"), (Rd.var (by walk_at "vr") (Rd.iC (by walk_at "scm") (Rd.fld (Rd.var (by walk_at "vr") (⟨_, _, _, _, _, rfl, (by walk_at "hp"), T.k_Form, T.n_Form_base, (by walk_at "lk"), (Rd.i0 ?_)⟩)))))⟩)))))
    exact k
/-! Scheme.wrap -/
theorem sc_Scheme_wrap : FnScope ["self"] ["self"] (defScope s_Scheme_wrap) := ⟨rfl, rfl, rfl, by decide +kernel, rfl, by decide +kernel, by decide +kernel⟩
def sp_Scheme_wrap (P : Program) (w : World) (mg : Str → Option Value) (base : Heap) (K : PySem.W.Frag) (A : Adr) : Sp := fun vs H Q E => vs.length = 1 ∧ ∀ (cdv : Value) (Ar : Around) (outer : List Env) (s : Shared), Room 0 (Ar.deeper (PyProof.Rows.envOfC "Scheme.wrap" (defScope s_Scheme_wrap) s.heap.objs.size A.f_Scheme_wrap cdv)) → ∃ t, PSs (cxOf CX0 P w K mg base ["self"] "Scheme.wrap" (defScope s_Scheme_wrap) A.f_Scheme_wrap cdv Ar outer s H E).nox (defBody s_Scheme_wrap) t ∧ t { nx := fun _ H' => Q .non H', rt := Q } (start ["self"] vs) H
theorem in_Scheme_wrap {vs : List V} {H : Hp} {Q : VK} {E : XK} (h : ∀ (cdv : Value) (Ar : Around) (outer : List Env) (s : Shared), Room 0 (Ar.deeper (PyProof.Rows.envOfC "Scheme.wrap" (defScope s_Scheme_wrap) s.heap.objs.size A.f_Scheme_wrap cdv)) → ∃ t, PSs (cxOf CX0 P w K mg base ["self"] "Scheme.wrap" (defScope s_Scheme_wrap) A.f_Scheme_wrap cdv Ar outer s H E).nox (defBody s_Scheme_wrap) t ∧ t { nx := fun _ H' => Q .non H', rt := Q } (start ["self"] vs) H) (e : vs.length = 1) : sp_Scheme_wrap P w mg base K A vs H Q E := ⟨e, h⟩
theorem ok_Scheme_wrap (T : Txt w K mg A) : FnOk P w K mg base CX0 1 A.f_Scheme_wrap A.d_Scheme_wrap ["self"] (sp_Scheme_wrap P w mg base K A) := T.F_Scheme_wrap.ok sc_Scheme_wrap (fun _ _ _ _ h => h.1) (fun cdv Ar outer s H vs Q E hr h => h.2 cdv Ar outer s hr)
/-! wrap_at -/
theorem sc_wrap_at : FnScope ["wrap", "n"] ["wrap", "n"] (defScope s_wrap_at) := ⟨rfl, rfl, rfl, by decide +kernel, rfl, by decide +kernel, by decide +kernel⟩
abbrev sp_wrap_at (K : PySem.W.Frag) (A : Adr) : Sp := fun vs H Q _ => ∃ (v : V) (t : Wr) (n : Int), vs = [v, .int n] ∧ IsWrap A H v t ∧ WfW t ∧ 1 ≤ n ∧ n ≤ 1000000000000000000000000000000 ∧ Q (.int (modV t n)) H
theorem ok_wrap_at (T : Txt w K mg A) : FnOk P w K mg base CX0 2 A.f_wrap_at A.d_wrap_at ["wrap", "n"] (sp_wrap_at K A) := by
  refine T.F_wrap_at.ok sc_wrap_at (fun vs H Q E h => ?_) (fun cdv Ar outer s H vs Q E hr h => ?_)
  · obtain ⟨v, t, n, rfl, hw, hf, n1, n2, k⟩ := h
    rfl
  · obtain ⟨v, t, n, rfl, hw, hf, n1, n2, k⟩ := h
    have hu := hu_of hr
    have t_q_PART_NAMES := T.q_PART_NAMES
    have t_q_PART_WORDS_slot := T.q_PART_WORDS_slot
    have t_d_PART_WORDS_slot := T.d_PART_WORDS_slot
    have t_q_PART_WORDS_empty := T.q_PART_WORDS_empty
    have t_d_PART_WORDS_empty := T.d_PART_WORDS_empty
    have t_q_PART_WORDS_when := T.q_PART_WORDS_when
    have t_d_PART_WORDS_when := T.d_PART_WORDS_when
    have t_q_MEASURES := T.q_MEASURES
    have t_q_SIGNS := T.q_SIGNS
    have t_q_PLAIN_FULLS := T.q_PLAIN_FULLS
    have t_i_Form := T.i_Form
    have t_kt_Form_Form := T.kt_Form_Form
    have t_kt_int_Form := T.kt_int_Form
    have t_nf_Form_Form := T.nf_Form_Form
    have t_nf_int_Form := T.nf_int_Form
    have t_xm_NoSize_NoSize := T.xm_NoSize_NoSize
    have t_xm_NoRing_NoSize := T.xm_NoRing_NoSize
    have t_xm_NoRing_NoRing := T.xm_NoRing_NoRing
    have t_xm_NotDecided_NoSize := T.xm_NotDecided_NoSize
    have t_xm_NotDecided_NoRing := T.xm_NotDecided_NoRing
    have t_xm_NotDecided_NotDecided := T.xm_NotDecided_NotDecided
    have t_xm_NoLag_NoSize := T.xm_NoLag_NoSize
    have t_xm_NoLag_NoRing := T.xm_NoLag_NoRing
    have t_xm_NoLag_NotDecided := T.xm_NoLag_NotDecided
    have t_xm_NoLag_NoLag := T.xm_NoLag_NoLag
    have t_xm_Outside_Outside := T.xm_Outside_Outside
    have t_k_Form := T.k_Form
    have t_k_Scheme := T.k_Scheme
    have t_k_Log := T.k_Log
    rcases t with w | ⟨s, b⟩
    · have hw : v = .int w := hw
      subst hw
      have hf : 1 ≤ w ∧ w ≤ 100 := hf
      refine ⟨_, (pss_cons (ps_if (pt_val (pe_callB (Rd.isi (K := K) rfl) (by rfl) T.n_isinstance (by decide +kernel) (pa_cons (pv 0) (pa_cons (pe_glob (v := .ref A.c_Form) rfl T.m_Form rfl) pa_nil)))) (pss_one ps_never) pss_nil)
      (pss_one (ps_ret (pe_op op_shl pe_int (pv 0))))), ?_⟩
      try dsimp only [L2.cxOf, L2.Cx.nox, L2.Cx.wish]
      with_reducible refine Rd.seq (Rd.ifS (Rd.tb (Rd.cB (Rd.cons (Rd.var (by walk_at "vr") (Rd.cons (Rd.c (Rd.nil ?_))))))))
      refine ⟨_, _, _, _, _, rfl, (by walk_at "clsv"), (by walk_at "tyx"), (by walk_at "kit"), ?_⟩
      with_reducible refine Rd.bl (Rd.iteF (by first | with_unfolding_all rfl | walk_at "bF") (Rd.next (Rd.ret (Rd.op (Rd.c (Rd.var (by walk_at "vr") (Rd.iC (by walk_at "scp") ?_)))))))
      exact k
    · obtain ⟨p, dx, rfl, hp⟩ := hw
      have hf : 0 ≤ s ∧ s ≤ 4 ∧ -20 ≤ b ∧ b ≤ 20 := hf
      refine ⟨_, (pss_cons (ps_if (pt_val (pe_callB (Rd.isi (K := K) rfl) (by rfl) T.n_isinstance (by decide +kernel) (pa_cons (pv 0) (pa_cons (pe_glob (v := .ref A.c_Form) rfl T.m_Form rfl) pa_nil)))) (pss_one (ps_ret (pe_call (ok_form_at T) (hr.mono (by decide)) (by rfl) T.m_form_at T.F_form_at.kp T.b_form_at .nil pass0 (pa_cons (pv 0) (pa_cons (pv 1) pa_nil))))) pss_nil)
      (pss_one ps_never)), ?_⟩
      try dsimp only [L2.cxOf, L2.Cx.nox, L2.Cx.wish]
      with_reducible refine Rd.seq (Rd.ifS (Rd.tb (Rd.cB (Rd.cons (Rd.var (by walk_at "vr") (Rd.cons (Rd.c (Rd.nil ?_))))))))
      refine ⟨_, _, _, _, _, rfl, (by walk_at "clsv"), (by walk_at "tyx"), (by walk_at "kit"), ?_⟩
      with_reducible refine Rd.bl (Rd.iteT (by first | with_unfolding_all rfl | walk_at "bT") (Rd.ret (Rd.call (Rd.cons (Rd.var (by walk_at "vr") (Rd.cons (Rd.var (by walk_at "vr") (Rd.nil ?_))))))))
      refine ⟨_, _, _, _, _, rfl, (by walk_at "hp"), (by walk_at "sc"), (by walk_at "sc"), ?_⟩
      exact k
/-! modulus_of -/
theorem sc_modulus_of : FnScope ["scheme", "n", "modulus"] ["scheme", "n"] (defScope s_modulus_of) := ⟨rfl, rfl, rfl, by decide +kernel, rfl, by decide +kernel, by decide +kernel⟩
abbrev sp_modulus_of (K : PySem.W.Frag) (A : Adr) : Sp := fun vs H Q E => ∃ (p : Addr) (t : Pt) (y : V), vs = [.ref p, y] ∧ IsScheme A H p t ∧ WfW t.wrap ∧ ((∃ n : Int, y = .int n ∧ 1 ≤ n ∧ n ≤ 1000000000000000000000000000000 ∧ ((1 ≤ modV t.wrap n ∧ Q (.int (modV t.wrap n)) H) ∨ (modV t.wrap n < 1 ∧ ∀ H1, Same H H1 → E (.ref A.c_NoRing) none H1))) ∨ (BadN K H y ∧ ∀ H1, Same H H1 → E (.ref A.c_NoSize) none H1))
theorem ok_modulus_of (T : Txt w K mg A) : FnOk P w K mg base (L2.CX P w) 5 A.f_modulus_of A.d_modulus_of ["scheme", "n"] (sp_modulus_of K A) := by
  refine T.F_modulus_of.okX sc_modulus_of (fun vs H Q E h => ?_) (fun cdv Ar outer s H vs Q E hr h => ?_)
  · obtain ⟨p, t, y, rfl, ⟨dx, d, vw, vf, hp, hd, hw, hfl⟩, hf, hy⟩ := h
    rfl
  · obtain ⟨p, t, y, rfl, ⟨dx, d, vw, vf, hp, hd, hw, hfl⟩, hf, hy⟩ := h
    have hu := hu_of hr
    have t_q_PART_NAMES := T.q_PART_NAMES
    have t_q_PART_WORDS_slot := T.q_PART_WORDS_slot
    have t_d_PART_WORDS_slot := T.d_PART_WORDS_slot
    have t_q_PART_WORDS_empty := T.q_PART_WORDS_empty
    have t_d_PART_WORDS_empty := T.d_PART_WORDS_empty
    have t_q_PART_WORDS_when := T.q_PART_WORDS_when
    have t_d_PART_WORDS_when := T.d_PART_WORDS_when
    have t_q_MEASURES := T.q_MEASURES
    have t_q_SIGNS := T.q_SIGNS
    have t_q_PLAIN_FULLS := T.q_PLAIN_FULLS
    have t_i_Form := T.i_Form
    have t_kt_Form_Form := T.kt_Form_Form
    have t_kt_int_Form := T.kt_int_Form
    have t_nf_Form_Form := T.nf_Form_Form
    have t_nf_int_Form := T.nf_int_Form
    have t_xm_NoSize_NoSize := T.xm_NoSize_NoSize
    have t_xm_NoRing_NoSize := T.xm_NoRing_NoSize
    have t_xm_NoRing_NoRing := T.xm_NoRing_NoRing
    have t_xm_NotDecided_NoSize := T.xm_NotDecided_NoSize
    have t_xm_NotDecided_NoRing := T.xm_NotDecided_NoRing
    have t_xm_NotDecided_NotDecided := T.xm_NotDecided_NotDecided
    have t_xm_NoLag_NoSize := T.xm_NoLag_NoSize
    have t_xm_NoLag_NoRing := T.xm_NoLag_NoRing
    have t_xm_NoLag_NotDecided := T.xm_NoLag_NotDecided
    have t_xm_NoLag_NoLag := T.xm_NoLag_NoLag
    have t_xm_Outside_Outside := T.xm_Outside_Outside
    have t_k_Form := T.k_Form
    have t_k_Scheme := T.k_Scheme
    have t_k_Log := T.k_Log
    rcases hy with ⟨n, rfl, n1, n2, ⟨hm, k⟩ | ⟨hm, k⟩⟩ | ⟨⟨i, rfl, hb⟩ | ⟨i, rfl, hb⟩ | hb, k⟩
    · skip
      refine ⟨_, (pss_cons (ps_expr (pe_call (ok_check_size T) (hr.mono (by decide)) (by rfl) T.m_check_size T.F_check_size.kp T.b_check_size .nil (passes_call (takes_of rfl rfl rfl rfl) fun _ _ _ _ h => h) (pa_cons (pv 1) pa_nil)))
      (pss_cons (ps_set (i := 2) sc_modulus_of.nd rfl (Or.inl rfl) (pe_call (ok_wrap_at T) (hr.mono (by decide)) (by rfl) T.m_wrap_at T.F_wrap_at.kp T.b_wrap_at .nil pass0 (pa_cons (pe_prop (pv 0) T.k_Scheme T.R_Scheme_wrap (ok_Scheme_wrap T) (hr.mono (by decide)) T.b_Scheme_wrap .nil pass0 rfl) (pa_cons (pv 1) pa_nil))))
      (pss_cons (ps_if (pt_cmpR op_lt (pv 2) pe_int (nomark _)) (pss_one ps_never) pss_nil)
      (pss_one (ps_ret (pv 2)))))), ?_⟩
      try dsimp only [L2.cxOf, L2.Cx.nox, L2.Cx.wish]
      with_reducible refine Rd.seq (Rd.drop (Rd.call (Rd.cons (Rd.var (by walk_at "vr") (Rd.nil ?_)))))
      refine ⟨_, rfl, .inl ⟨_, rfl, (by walk_at "sc"), (by walk_at "sc"), ?_⟩⟩
      with_reducible refine Rd.seq (Rd.asg (Rd.call (Rd.cons (Rd.prop (Rd.var (by walk_at "vr") (⟨_, _, _, rfl, (by walk_at "hp"), ?_⟩))))))
      refine in_Scheme_wrap (fun cdv Ar outer s hr => ?_) rfl
      have hu := hu_of hr
      refine ⟨_, (pss_one (ps_ret (pe_dget hu (pe_fld (pv 0) rfl) pe_str (fun _ _ => rfl)))), ?_⟩
      try dsimp only [L2.cxOf, L2.Cx.nox, L2.Cx.wish]
      with_reducible refine Rd.ret (Rd.dget (Rd.fld (Rd.var (by walk_at "vr") (⟨_, _, _, _, _, rfl, (by walk_at "hp"), T.k_Scheme, T.n_Scheme_parts, (by walk_at "lk"), (Rd.c ?_)⟩))))
      refine Rd.dget2 (by walk_at "hp") (by walk_at "dl") ?_
      with_reducible refine Rd.cons (Rd.var (by walk_at "vr") (Rd.nil ?_))
      refine ⟨_, _, _, rfl, (by assumption), (by assumption), (by walk_at "sc"), (by walk_at "sc"), ?_⟩
      with_reducible refine Rd.name (Rd.seq (Rd.ifS (Rd.test (Rd.op (Rd.var (by walk_at "vr") (Rd.c (Rd.i0 (Rd.bl (Rd.iteF (by walk_at "bF") (Rd.next (Rd.ret ?_)))))))))))
      with_reducible refine Rd.var (by walk_at "vr") ?_
      exact k
    · skip
      refine ⟨_, (pss_cons (ps_expr (pe_call (ok_check_size T) (hr.mono (by decide)) (by rfl) T.m_check_size T.F_check_size.kp T.b_check_size .nil (passes_call (takes_of rfl rfl rfl rfl) fun _ _ _ _ h => h) (pa_cons (pv 1) pa_nil)))
      (pss_cons (ps_set (i := 2) sc_modulus_of.nd rfl (Or.inl rfl) (pe_call (ok_wrap_at T) (hr.mono (by decide)) (by rfl) T.m_wrap_at T.F_wrap_at.kp T.b_wrap_at .nil pass0 (pa_cons (pe_prop (pv 0) T.k_Scheme T.R_Scheme_wrap (ok_Scheme_wrap T) (hr.mono (by decide)) T.b_Scheme_wrap .nil pass0 rfl) (pa_cons (pv 1) pa_nil))))
      (pss_cons (ps_if (pt_cmpR op_lt (pv 2) pe_int (nomark _)) (pss_one (ps_raise rfl (takes_of rfl rfl rfl rfl) (pmk_own PySem.F.excBase_ValueError T.x_NoRing T.m_NoRing T.kp_NoRing (raises_own T.sb_NoRing T.tc_NoRing) rfl))) pss_nil)
      (pss_one ps_never)))), ?_⟩
      try dsimp only [L2.cxOf, L2.Cx.nox, L2.Cx.wish]
      with_reducible refine Rd.seq (Rd.drop (Rd.call (Rd.cons (Rd.var (by walk_at "vr") (Rd.nil ?_)))))
      refine ⟨_, rfl, .inl ⟨_, rfl, (by walk_at "sc"), (by walk_at "sc"), ?_⟩⟩
      with_reducible refine Rd.seq (Rd.asg (Rd.call (Rd.cons (Rd.prop (Rd.var (by walk_at "vr") (⟨_, _, _, rfl, (by walk_at "hp"), ?_⟩))))))
      refine in_Scheme_wrap (fun cdv Ar outer s hr => ?_) rfl
      have hu := hu_of hr
      refine ⟨_, (pss_one (ps_ret (pe_dget hu (pe_fld (pv 0) rfl) pe_str (fun _ _ => rfl)))), ?_⟩
      try dsimp only [L2.cxOf, L2.Cx.nox, L2.Cx.wish]
      with_reducible refine Rd.ret (Rd.dget (Rd.fld (Rd.var (by walk_at "vr") (⟨_, _, _, _, _, rfl, (by walk_at "hp"), T.k_Scheme, T.n_Scheme_parts, (by walk_at "lk"), (Rd.c ?_)⟩))))
      refine Rd.dget2 (by walk_at "hp") (by walk_at "dl") ?_
      with_reducible refine Rd.cons (Rd.var (by walk_at "vr") (Rd.nil ?_))
      refine ⟨_, _, _, rfl, (by assumption), (by assumption), (by walk_at "sc"), (by walk_at "sc"), ?_⟩
      with_reducible refine Rd.name (Rd.seq (Rd.ifS (Rd.test (Rd.op (Rd.var (by walk_at "vr") (Rd.c (Rd.i0 (Rd.bl (Rd.iteT (by walk_at "bT") ?_)))))))))
      exact k _ (Same.refl _)
    · skip
      refine ⟨_, (pss_cons (ps_expr (pe_call (ok_check_size T) (hr.mono (by decide)) (by rfl) T.m_check_size T.F_check_size.kp T.b_check_size .nil (passes_call (takes_of rfl rfl rfl rfl) fun _ _ _ _ h => h) (pa_cons (pv 1) pa_nil)))
      (pss_cons ps_never (pss_cons ps_never (pss_one ps_never)))), ?_⟩
      try dsimp only [L2.cxOf, L2.Cx.nox, L2.Cx.wish]
      with_reducible refine Rd.seq (Rd.drop (Rd.call (Rd.cons (Rd.var (by walk_at "vr") (Rd.nil ?_)))))
      refine ⟨_, rfl, .inr (.inl ⟨_, rfl, (by walk_at "sc"), k _ (Same.refl _)⟩)⟩
    · skip
      refine ⟨_, (pss_cons (ps_expr (pe_call (ok_check_size T) (hr.mono (by decide)) (by rfl) T.m_check_size T.F_check_size.kp T.b_check_size .nil (passes_call (takes_of rfl rfl rfl rfl) fun _ _ _ _ h => h) (pa_cons (pv 1) pa_nil)))
      (pss_cons ps_never (pss_cons ps_never (pss_one ps_never)))), ?_⟩
      try dsimp only [L2.cxOf, L2.Cx.nox, L2.Cx.wish]
      with_reducible refine Rd.seq (Rd.drop (Rd.call (Rd.cons (Rd.var (by walk_at "vr") (Rd.nil ?_)))))
      refine ⟨_, rfl, .inr (.inr (.inl ⟨_, rfl, (by walk_at "sc"), (by walk_at "sc"), k _ (Same.refl _)⟩))⟩
    · skip
      refine ⟨_, (pss_cons (ps_expr (pe_call (ok_check_size T) (hr.mono (by decide)) (by rfl) T.m_check_size T.F_check_size.kp T.b_check_size .nil (passes_call (takes_of rfl rfl rfl rfl) fun _ _ _ _ h => h) (pa_cons (pv 1) pa_nil)))
      (pss_cons ps_never (pss_cons ps_never (pss_one ps_never)))), ?_⟩
      try dsimp only [L2.cxOf, L2.Cx.nox, L2.Cx.wish]
      with_reducible refine Rd.seq (Rd.drop (Rd.call (Rd.cons (Rd.var (by walk_at "vr") (Rd.nil ?_)))))
      refine ⟨_, rfl, .inr (.inr (.inr ⟨hb, k _ (Same.refl _)⟩))⟩
/-! Scheme.slot -/
theorem sc_Scheme_slot : FnScope ["self"] ["self"] (defScope s_Scheme_slot) := ⟨rfl, rfl, rfl, by decide +kernel, rfl, by decide +kernel, by decide +kernel⟩
def sp_Scheme_slot (P : Program) (w : World) (mg : Str → Option Value) (base : Heap) (K : PySem.W.Frag) (A : Adr) : Sp := fun vs H Q E => vs.length = 1 ∧ ∀ (cdv : Value) (Ar : Around) (outer : List Env) (s : Shared), Room 0 (Ar.deeper (PyProof.Rows.envOfC "Scheme.slot" (defScope s_Scheme_slot) s.heap.objs.size A.f_Scheme_slot cdv)) → ∃ t, PSs (cxOf CX0 P w K mg base ["self"] "Scheme.slot" (defScope s_Scheme_slot) A.f_Scheme_slot cdv Ar outer s H E).nox (defBody s_Scheme_slot) t ∧ t { nx := fun _ H' => Q .non H', rt := Q } (start ["self"] vs) H
theorem in_Scheme_slot {vs : List V} {H : Hp} {Q : VK} {E : XK} (h : ∀ (cdv : Value) (Ar : Around) (outer : List Env) (s : Shared), Room 0 (Ar.deeper (PyProof.Rows.envOfC "Scheme.slot" (defScope s_Scheme_slot) s.heap.objs.size A.f_Scheme_slot cdv)) → ∃ t, PSs (cxOf CX0 P w K mg base ["self"] "Scheme.slot" (defScope s_Scheme_slot) A.f_Scheme_slot cdv Ar outer s H E).nox (defBody s_Scheme_slot) t ∧ t { nx := fun _ H' => Q .non H', rt := Q } (start ["self"] vs) H) (e : vs.length = 1) : sp_Scheme_slot P w mg base K A vs H Q E := ⟨e, h⟩
theorem ok_Scheme_slot (T : Txt w K mg A) : FnOk P w K mg base CX0 1 A.f_Scheme_slot A.d_Scheme_slot ["self"] (sp_Scheme_slot P w mg base K A) := T.F_Scheme_slot.ok sc_Scheme_slot (fun _ _ _ _ h => h.1) (fun cdv Ar outer s H vs Q E hr h => h.2 cdv Ar outer s hr)
/-! Scheme.when -/
theorem sc_Scheme_when : FnScope ["self"] ["self"] (defScope s_Scheme_when) := ⟨rfl, rfl, rfl, by decide +kernel, rfl, by decide +kernel, by decide +kernel⟩
def sp_Scheme_when (P : Program) (w : World) (mg : Str → Option Value) (base : Heap) (K : PySem.W.Frag) (A : Adr) : Sp := fun vs H Q E => vs.length = 1 ∧ ∀ (cdv : Value) (Ar : Around) (outer : List Env) (s : Shared), Room 0 (Ar.deeper (PyProof.Rows.envOfC "Scheme.when" (defScope s_Scheme_when) s.heap.objs.size A.f_Scheme_when cdv)) → ∃ t, PSs (cxOf CX0 P w K mg base ["self"] "Scheme.when" (defScope s_Scheme_when) A.f_Scheme_when cdv Ar outer s H E).nox (defBody s_Scheme_when) t ∧ t { nx := fun _ H' => Q .non H', rt := Q } (start ["self"] vs) H
theorem in_Scheme_when {vs : List V} {H : Hp} {Q : VK} {E : XK} (h : ∀ (cdv : Value) (Ar : Around) (outer : List Env) (s : Shared), Room 0 (Ar.deeper (PyProof.Rows.envOfC "Scheme.when" (defScope s_Scheme_when) s.heap.objs.size A.f_Scheme_when cdv)) → ∃ t, PSs (cxOf CX0 P w K mg base ["self"] "Scheme.when" (defScope s_Scheme_when) A.f_Scheme_when cdv Ar outer s H E).nox (defBody s_Scheme_when) t ∧ t { nx := fun _ H' => Q .non H', rt := Q } (start ["self"] vs) H) (e : vs.length = 1) : sp_Scheme_when P w mg base K A vs H Q E := ⟨e, h⟩
theorem ok_Scheme_when (T : Txt w K mg A) : FnOk P w K mg base CX0 1 A.f_Scheme_when A.d_Scheme_when ["self"] (sp_Scheme_when P w mg base K A) := T.F_Scheme_when.ok sc_Scheme_when (fun _ _ _ _ h => h.1) (fun cdv Ar outer s H vs Q E hr h => h.2 cdv Ar outer s hr)
/-! log_modulus -/
theorem sc_log_modulus : FnScope ["scheme", "n", "modulus"] ["scheme", "n"] (defScope s_log_modulus) := ⟨rfl, rfl, rfl, by decide +kernel, rfl, by decide +kernel, by decide +kernel⟩
theorem st_log_modulus {v0 v1 : V} : L2.start ["scheme", "n", "modulus"] [v0, v1] = [some v0, some v1, none] := rfl
abbrev sp_log_modulus (K : PySem.W.Frag) (A : Adr) : Sp := fun vs H Q E => ∃ (p : Addr) (t : Pt) (y : V), vs = [.ref p, y] ∧ IsScheme A H p t ∧ Wf t ∧ ((y = .int 0 ∧ ∀ H1, Same H H1 → E (.ref A.c_NoSize) none H1) ∨ ∃ n : Int, y = .int n ∧ 1 ≤ n ∧ n ≤ 1000000000000000000000000000000 ∧ ((modV t.wrap n < 1 ∧ ∀ H1, Same H H1 → E (.ref A.c_NoRing) none H1) ∨ (1 ≤ modV t.wrap n ∧ ((¬ LogOk t n ∧ ∀ H1, Same H H1 → E (.ref A.c_NotDecided) none H1) ∨ (LogOk t n ∧ Q (.int (modV t.wrap n)) H)))))
theorem ok_log_modulus (T : Txt w K mg A) : FnOk P w K mg base (L2.CX P w) 6 A.f_log_modulus A.d_log_modulus ["scheme", "n"] (sp_log_modulus K A) := by
  refine T.F_log_modulus.okX sc_log_modulus (fun vs H Q E h => ?_) (fun cdv Ar outer s H vs Q E hr h => ?_)
  · obtain ⟨p, t, y, rfl, hsch, wf, hy⟩ := h
    rfl
  · obtain ⟨p, t, y, rfl, hsch, wf, hy⟩ := h
    have hu := hu_of hr
    have t_q_PART_NAMES := T.q_PART_NAMES
    have t_q_PART_WORDS_slot := T.q_PART_WORDS_slot
    have t_d_PART_WORDS_slot := T.d_PART_WORDS_slot
    have t_q_PART_WORDS_empty := T.q_PART_WORDS_empty
    have t_d_PART_WORDS_empty := T.d_PART_WORDS_empty
    have t_q_PART_WORDS_when := T.q_PART_WORDS_when
    have t_d_PART_WORDS_when := T.d_PART_WORDS_when
    have t_q_MEASURES := T.q_MEASURES
    have t_q_SIGNS := T.q_SIGNS
    have t_q_PLAIN_FULLS := T.q_PLAIN_FULLS
    have t_i_Form := T.i_Form
    have t_kt_Form_Form := T.kt_Form_Form
    have t_kt_int_Form := T.kt_int_Form
    have t_nf_Form_Form := T.nf_Form_Form
    have t_nf_int_Form := T.nf_int_Form
    have t_xm_NoSize_NoSize := T.xm_NoSize_NoSize
    have t_xm_NoRing_NoSize := T.xm_NoRing_NoSize
    have t_xm_NoRing_NoRing := T.xm_NoRing_NoRing
    have t_xm_NotDecided_NoSize := T.xm_NotDecided_NoSize
    have t_xm_NotDecided_NoRing := T.xm_NotDecided_NoRing
    have t_xm_NotDecided_NotDecided := T.xm_NotDecided_NotDecided
    have t_xm_NoLag_NoSize := T.xm_NoLag_NoSize
    have t_xm_NoLag_NoRing := T.xm_NoLag_NoRing
    have t_xm_NoLag_NotDecided := T.xm_NoLag_NotDecided
    have t_xm_NoLag_NoLag := T.xm_NoLag_NoLag
    have t_xm_Outside_Outside := T.xm_Outside_Outside
    have t_k_Form := T.k_Form
    have t_k_Scheme := T.k_Scheme
    have t_k_Log := T.k_Log
    have wfw := wf.w
    have hsch0 := hsch
    obtain ⟨dx, d, vw, vf, hp, hd, hw, hfl⟩ := hsch
    rcases hy with ⟨rfl, k⟩ | ⟨n, rfl, n1, n2, ⟨hm, k⟩ | ⟨hm, ⟨hl, k⟩ | ⟨⟨hl1, hl2, hl3⟩, k⟩⟩⟩
    rotate_left 2
    rcases Decidable.em (t.wen = "over") with g1 | g1
    rcases Decidable.em (modV t.wrap n % n = 0) with g2 | g2
    have g3 : t.slot = "off" ∧ 2 * n < modV t.wrap n := Decidable.byContradiction fun z => hl ⟨g1, g2, z⟩
    · skip
      refine ⟨_, (pss_cons (ps_set (i := 2) sc_log_modulus.nd rfl (Or.inl rfl) (pe_call (ok_modulus_of T) (hr.mono (by decide)) (by rfl) T.m_modulus_of T.F_modulus_of.kp T.b_modulus_of .nil (passes_call (takes_of rfl rfl rfl rfl) fun _ _ _ _ h => h) (pa_cons (pv 0) (pa_cons (pv 1) pa_nil))))
      (pss_cons (ps_if (pt_cmpR op_ne (pe_prop (pv 0) T.k_Scheme T.R_Scheme_when (ok_Scheme_when T) (hr.mono (by decide)) T.b_Scheme_when .nil pass0 rfl) pe_str (nomark _)) (pss_one ps_never) pss_nil)
      (pss_cons (ps_if (PW.pt (pw_or (pt_cmpR op_ne (pe_op op_mod (pv 2) (pv 1)) pe_int (nomark _)) (pw_or1 (pt_val (pe_call (ok_has_outside T) (hr.mono (by decide)) (by rfl) T.m_has_outside T.F_has_outside.kp T.b_has_outside .nil pass0 (pa_cons (pe_prop (pv 0) T.k_Scheme T.R_Scheme_slot (ok_Scheme_slot T) (hr.mono (by decide)) T.b_Scheme_slot .nil pass0 rfl) (pa_cons (pv 1) (pa_cons (pv 2) pa_nil)))))))) (pss_one (ps_raise rfl (takes_of rfl rfl rfl rfl) (pmk_own PySem.F.excBase_ValueError T.x_NotDecided T.m_NotDecided T.kp_NotDecided (raises_own T.sb_NotDecided T.tc_NotDecided) rfl))) pss_nil)
      (pss_one ps_never)))), ?_⟩
      try dsimp only [L2.cxOf, L2.Cx.nox, L2.Cx.wish]
      try rw [st_log_modulus]
      with_reducible refine Rd.seq (Rd.asg (Rd.call (Rd.cons (Rd.var (by walk_at "vr") (Rd.cons (Rd.var (by walk_at "vr") (Rd.nil ?_)))))))
      refine ⟨_, _, _, rfl, (by assumption), wfw, .inl ⟨_, rfl, n1, n2, .inl ⟨hm, ?_⟩⟩⟩
      with_reducible refine Rd.name ?_
      try dsimp only [Int.reduceToNat, List.set]
      with_reducible refine Rd.seq (Rd.ifS (Rd.test (Rd.op (Rd.prop (Rd.var (by walk_at "vr") (⟨_, _, _, rfl, (by walk_at "hp"), ?_⟩))))))
      refine in_Scheme_when (fun cdv Ar outer s hr => ?_) rfl
      have hu := hu_of hr
      refine ⟨_, (pss_one (ps_ret (pe_dget hu (pe_fld (pv 0) rfl) pe_str (fun _ _ => rfl)))), ?_⟩
      try dsimp only [L2.cxOf, L2.Cx.nox, L2.Cx.wish]
      with_reducible refine Rd.ret (Rd.dget (Rd.fld (Rd.var (by walk_at "vr") (⟨_, _, _, _, _, rfl, (by walk_at "hp"), T.k_Scheme, T.n_Scheme_parts, (by walk_at "lk"), (Rd.c ?_)⟩))))
      refine Rd.dget2 (by walk_at "hp") (by walk_at "dl") ?_
      with_reducible refine Rd.c (Rd.neS (by walk_at "vr") (Rd.bl (Rd.iteF (by walk_at "bF") (Rd.next (Rd.seq (Rd.ifS (Rd.or (Rd.test (Rd.op (Rd.op (Rd.var (by walk_at "vr") ?_)))))))))))
      with_reducible refine Rd.var (by walk_at "vr") (Rd.iC (by walk_at "sc") (Rd.c (Rd.neS (by walk_at "vr") (Rd.bl (Rd.iteF (by walk_at "bF") (Rd.tb (Rd.call (Rd.cons (Rd.prop (Rd.var (by walk_at "vr") (⟨_, _, _, rfl, (by walk_at "hp"), ?_⟩)))))))))))
      refine in_Scheme_slot (fun cdv Ar outer s hr => ?_) rfl
      have hu := hu_of hr
      refine ⟨_, (pss_one (ps_ret (pe_dget hu (pe_fld (pv 0) rfl) pe_str (fun _ _ => rfl)))), ?_⟩
      try dsimp only [L2.cxOf, L2.Cx.nox, L2.Cx.wish]
      with_reducible refine Rd.ret (Rd.dget (Rd.fld (Rd.var (by walk_at "vr") (⟨_, _, _, _, _, rfl, (by walk_at "hp"), T.k_Scheme, T.n_Scheme_parts, (by walk_at "lk"), (Rd.c ?_)⟩))))
      refine Rd.dget2 (by walk_at "hp") (by walk_at "dl") ?_
      with_reducible refine Rd.cons (Rd.var (by walk_at "vr") (Rd.cons (Rd.var (by walk_at "vr") (Rd.nil ?_))))
      refine ⟨_, _, _, rfl, n1, n2, ?_⟩
      with_reducible refine Rd.bl (Rd.iteT (by walk_at "bT") ?_)
      exact k _ (by walk_at "frm")
    · skip
      refine ⟨_, (pss_cons (ps_set (i := 2) sc_log_modulus.nd rfl (Or.inl rfl) (pe_call (ok_modulus_of T) (hr.mono (by decide)) (by rfl) T.m_modulus_of T.F_modulus_of.kp T.b_modulus_of .nil (passes_call (takes_of rfl rfl rfl rfl) fun _ _ _ _ h => h) (pa_cons (pv 0) (pa_cons (pv 1) pa_nil))))
      (pss_cons (ps_if (pt_cmpR op_ne (pe_prop (pv 0) T.k_Scheme T.R_Scheme_when (ok_Scheme_when T) (hr.mono (by decide)) T.b_Scheme_when .nil pass0 rfl) pe_str (nomark _)) (pss_one ps_never) pss_nil)
      (pss_cons (ps_if (PW.pt (pw_or (pt_cmpR op_ne (pe_op op_mod (pv 2) (pv 1)) pe_int (nomark _)) (pw_or1 Rd.ptN))) (pss_one (ps_raise rfl (takes_of rfl rfl rfl rfl) (pmk_own PySem.F.excBase_ValueError T.x_NotDecided T.m_NotDecided T.kp_NotDecided (raises_own T.sb_NotDecided T.tc_NotDecided) rfl))) pss_nil)
      (pss_one ps_never)))), ?_⟩
      try dsimp only [L2.cxOf, L2.Cx.nox, L2.Cx.wish]
      try rw [st_log_modulus]
      with_reducible refine Rd.seq (Rd.asg (Rd.call (Rd.cons (Rd.var (by walk_at "vr") (Rd.cons (Rd.var (by walk_at "vr") (Rd.nil ?_)))))))
      refine ⟨_, _, _, rfl, (by assumption), wfw, .inl ⟨_, rfl, n1, n2, .inl ⟨hm, ?_⟩⟩⟩
      with_reducible refine Rd.name ?_
      try dsimp only [Int.reduceToNat, List.set]
      with_reducible refine Rd.seq (Rd.ifS (Rd.test (Rd.op (Rd.prop (Rd.var (by walk_at "vr") (⟨_, _, _, rfl, (by walk_at "hp"), ?_⟩))))))
      refine in_Scheme_when (fun cdv Ar outer s hr => ?_) rfl
      have hu := hu_of hr
      refine ⟨_, (pss_one (ps_ret (pe_dget hu (pe_fld (pv 0) rfl) pe_str (fun _ _ => rfl)))), ?_⟩
      try dsimp only [L2.cxOf, L2.Cx.nox, L2.Cx.wish]
      with_reducible refine Rd.ret (Rd.dget (Rd.fld (Rd.var (by walk_at "vr") (⟨_, _, _, _, _, rfl, (by walk_at "hp"), T.k_Scheme, T.n_Scheme_parts, (by walk_at "lk"), (Rd.c ?_)⟩))))
      refine Rd.dget2 (by walk_at "hp") (by walk_at "dl") ?_
      with_reducible refine Rd.c (Rd.neS (by walk_at "vr") (Rd.bl (Rd.iteF (by walk_at "bF") (Rd.next (Rd.seq (Rd.ifS (Rd.or (Rd.test (Rd.op (Rd.op (Rd.var (by walk_at "vr") ?_)))))))))))
      with_reducible refine Rd.var (by walk_at "vr") (Rd.iC (by walk_at "sc") (Rd.c (Rd.neS (by walk_at "vr") (Rd.bl (Rd.iteT (by walk_at "bT") (Rd.iteT rfl ?_))))))
      exact k _ (by walk_at "frm")
    · skip
      refine ⟨_, (pss_cons (ps_set (i := 2) sc_log_modulus.nd rfl (Or.inl rfl) (pe_call (ok_modulus_of T) (hr.mono (by decide)) (by rfl) T.m_modulus_of T.F_modulus_of.kp T.b_modulus_of .nil (passes_call (takes_of rfl rfl rfl rfl) fun _ _ _ _ h => h) (pa_cons (pv 0) (pa_cons (pv 1) pa_nil))))
      (pss_cons (ps_if (pt_cmpR op_ne (pe_prop (pv 0) T.k_Scheme T.R_Scheme_when (ok_Scheme_when T) (hr.mono (by decide)) T.b_Scheme_when .nil pass0 rfl) pe_str (nomark _)) (pss_one (ps_raise rfl (takes_of rfl rfl rfl rfl) (pmk_own PySem.F.excBase_ValueError T.x_NotDecided T.m_NotDecided T.kp_NotDecided (raises_own T.sb_NotDecided T.tc_NotDecided) rfl))) pss_nil)
      (pss_cons ps_never (pss_one ps_never)))), ?_⟩
      try dsimp only [L2.cxOf, L2.Cx.nox, L2.Cx.wish]
      try rw [st_log_modulus]
      with_reducible refine Rd.seq (Rd.asg (Rd.call (Rd.cons (Rd.var (by walk_at "vr") (Rd.cons (Rd.var (by walk_at "vr") (Rd.nil ?_)))))))
      refine ⟨_, _, _, rfl, (by assumption), wfw, .inl ⟨_, rfl, n1, n2, .inl ⟨hm, ?_⟩⟩⟩
      with_reducible refine Rd.name ?_
      try dsimp only [Int.reduceToNat, List.set]
      with_reducible refine Rd.seq (Rd.ifS (Rd.test (Rd.op (Rd.prop (Rd.var (by walk_at "vr") (⟨_, _, _, rfl, (by walk_at "hp"), ?_⟩))))))
      refine in_Scheme_when (fun cdv Ar outer s hr => ?_) rfl
      have hu := hu_of hr
      refine ⟨_, (pss_one (ps_ret (pe_dget hu (pe_fld (pv 0) rfl) pe_str (fun _ _ => rfl)))), ?_⟩
      try dsimp only [L2.cxOf, L2.Cx.nox, L2.Cx.wish]
      with_reducible refine Rd.ret (Rd.dget (Rd.fld (Rd.var (by walk_at "vr") (⟨_, _, _, _, _, rfl, (by walk_at "hp"), T.k_Scheme, T.n_Scheme_parts, (by walk_at "lk"), (Rd.c ?_)⟩))))
      refine Rd.dget2 (by walk_at "hp") (by walk_at "dl") ?_
      with_reducible refine Rd.c (Rd.neS (by walk_at "vr") (Rd.bl (Rd.iteT (by walk_at "bT") ?_)))
      exact k _ (by walk_at "frm")
    · skip
      refine ⟨_, (pss_cons (ps_set (i := 2) sc_log_modulus.nd rfl (Or.inl rfl) (pe_call (ok_modulus_of T) (hr.mono (by decide)) (by rfl) T.m_modulus_of T.F_modulus_of.kp T.b_modulus_of .nil (passes_call (takes_of rfl rfl rfl rfl) fun _ _ _ _ h => h) (pa_cons (pv 0) (pa_cons (pv 1) pa_nil))))
      (pss_cons (ps_if (pt_cmpR op_ne (pe_prop (pv 0) T.k_Scheme T.R_Scheme_when (ok_Scheme_when T) (hr.mono (by decide)) T.b_Scheme_when .nil pass0 rfl) pe_str (nomark _)) (pss_one ps_never) pss_nil)
      (pss_cons (ps_if (PW.pt (pw_or (pt_cmpR op_ne (pe_op op_mod (pv 2) (pv 1)) pe_int (nomark _)) (pw_or1 (pt_val (pe_call (ok_has_outside T) (hr.mono (by decide)) (by rfl) T.m_has_outside T.F_has_outside.kp T.b_has_outside .nil pass0 (pa_cons (pe_prop (pv 0) T.k_Scheme T.R_Scheme_slot (ok_Scheme_slot T) (hr.mono (by decide)) T.b_Scheme_slot .nil pass0 rfl) (pa_cons (pv 1) (pa_cons (pv 2) pa_nil)))))))) (pss_one ps_never) pss_nil)
      (pss_one (ps_ret (pv 2)))))), ?_⟩
      try dsimp only [L2.cxOf, L2.Cx.nox, L2.Cx.wish]
      try rw [st_log_modulus]
      with_reducible refine Rd.seq (Rd.asg (Rd.call (Rd.cons (Rd.var (by walk_at "vr") (Rd.cons (Rd.var (by walk_at "vr") (Rd.nil ?_)))))))
      refine ⟨_, _, _, rfl, (by assumption), wfw, .inl ⟨_, rfl, n1, n2, .inl ⟨hm, ?_⟩⟩⟩
      with_reducible refine Rd.name ?_
      try dsimp only [Int.reduceToNat, List.set]
      with_reducible refine Rd.seq (Rd.ifS (Rd.test (Rd.op (Rd.prop (Rd.var (by walk_at "vr") (⟨_, _, _, rfl, (by walk_at "hp"), ?_⟩))))))
      refine in_Scheme_when (fun cdv Ar outer s hr => ?_) rfl
      have hu := hu_of hr
      refine ⟨_, (pss_one (ps_ret (pe_dget hu (pe_fld (pv 0) rfl) pe_str (fun _ _ => rfl)))), ?_⟩
      try dsimp only [L2.cxOf, L2.Cx.nox, L2.Cx.wish]
      with_reducible refine Rd.ret (Rd.dget (Rd.fld (Rd.var (by walk_at "vr") (⟨_, _, _, _, _, rfl, (by walk_at "hp"), T.k_Scheme, T.n_Scheme_parts, (by walk_at "lk"), (Rd.c ?_)⟩))))
      refine Rd.dget2 (by walk_at "hp") (by walk_at "dl") ?_
      with_reducible refine Rd.c (Rd.neS (by walk_at "vr") (Rd.bl (Rd.iteF (by walk_at "bF") (Rd.next (Rd.seq (Rd.ifS (Rd.or (Rd.test (Rd.op (Rd.op (Rd.var (by walk_at "vr") ?_)))))))))))
      with_reducible refine Rd.var (by walk_at "vr") (Rd.iC (by walk_at "sc") (Rd.c (Rd.neS (by walk_at "vr") (Rd.bl (Rd.iteF (by walk_at "bF") (Rd.tb (Rd.call (Rd.cons (Rd.prop (Rd.var (by walk_at "vr") (⟨_, _, _, rfl, (by walk_at "hp"), ?_⟩)))))))))))
      refine in_Scheme_slot (fun cdv Ar outer s hr => ?_) rfl
      have hu := hu_of hr
      refine ⟨_, (pss_one (ps_ret (pe_dget hu (pe_fld (pv 0) rfl) pe_str (fun _ _ => rfl)))), ?_⟩
      try dsimp only [L2.cxOf, L2.Cx.nox, L2.Cx.wish]
      with_reducible refine Rd.ret (Rd.dget (Rd.fld (Rd.var (by walk_at "vr") (⟨_, _, _, _, _, rfl, (by walk_at "hp"), T.k_Scheme, T.n_Scheme_parts, (by walk_at "lk"), (Rd.c ?_)⟩))))
      refine Rd.dget2 (by walk_at "hp") (by walk_at "dl") ?_
      with_reducible refine Rd.cons (Rd.var (by walk_at "vr") (Rd.cons (Rd.var (by walk_at "vr") (Rd.nil ?_))))
      refine ⟨_, _, _, rfl, n1, n2, ?_⟩
      with_reducible refine Rd.bl (Rd.iteF (by walk_at "bF") (Rd.next (Rd.ret (Rd.var (by walk_at "vr") ?_))))
      exact k
    · skip
      refine ⟨_, (pss_cons (ps_set (i := 2) sc_log_modulus.nd rfl (Or.inl rfl) (pe_call (ok_modulus_of T) (hr.mono (by decide)) (by rfl) T.m_modulus_of T.F_modulus_of.kp T.b_modulus_of .nil (passes_call (takes_of rfl rfl rfl rfl) fun _ _ _ _ h => h) (pa_cons (pv 0) (pa_cons (pv 1) pa_nil))))
      (pss_cons ps_never (pss_cons ps_never (pss_one ps_never)))), ?_⟩
      try dsimp only [L2.cxOf, L2.Cx.nox, L2.Cx.wish]
      try rw [st_log_modulus]
      with_reducible refine Rd.seq (Rd.asg (Rd.call (Rd.cons (Rd.var (by walk_at "vr") (Rd.cons (Rd.var (by walk_at "vr") (Rd.nil ?_)))))))
      refine ⟨_, _, _, rfl, (by assumption), wfw, .inr ⟨.inl ⟨0, rfl, by decide⟩, fun H1 S1 => k _ (by walk_at "frm")⟩⟩
    · skip
      refine ⟨_, (pss_cons (ps_set (i := 2) sc_log_modulus.nd rfl (Or.inl rfl) (pe_call (ok_modulus_of T) (hr.mono (by decide)) (by rfl) T.m_modulus_of T.F_modulus_of.kp T.b_modulus_of .nil (passes_call (takes_of rfl rfl rfl rfl) fun _ _ _ _ h => h) (pa_cons (pv 0) (pa_cons (pv 1) pa_nil))))
      (pss_cons ps_never (pss_cons ps_never (pss_one ps_never)))), ?_⟩
      try dsimp only [L2.cxOf, L2.Cx.nox, L2.Cx.wish]
      try rw [st_log_modulus]
      with_reducible refine Rd.seq (Rd.asg (Rd.call (Rd.cons (Rd.var (by walk_at "vr") (Rd.cons (Rd.var (by walk_at "vr") (Rd.nil ?_)))))))
      refine ⟨_, _, _, rfl, (by assumption), wfw, .inl ⟨_, rfl, n1, n2, .inr ⟨hm, fun H1 S1 => k _ (by walk_at "frm")⟩⟩⟩
/-! Log.__init__ -/
theorem sc_Logu__initu_ : FnScope ["self", "scheme", "n"] ["self", "scheme", "n"] (defScope s_Logu__initu_) := ⟨rfl, rfl, rfl, by decide +kernel, rfl, by decide +kernel, by decide +kernel⟩
theorem st_Logu__initu_ {v0 v1 v2 : V} : L2.start ["self", "scheme", "n"] [v0, v1, v2] = [some v0, some v1, some v2] := rfl
abbrev sp_Logu__initu_ (K : PySem.W.Frag) (A : Adr) : Sp := fun vs H Q _ => ∃ (p dx ps : Addr) (t : Pt) (n : Int), vs = [.ref p, .ref ps, .int n] ∧ H p = some (.ins A.c_Log dx []) ∧ IsScheme A H ps t ∧ Wf t ∧ 1 ≤ n ∧ n ≤ 1000000000000000000000000000000 ∧ 1 ≤ modV t.wrap n ∧ LogOk t n ∧ ∀ H', Frm p H H' → H' p = some (.ins A.c_Log dx (fL (modV t.wrap n) n 0)) → Q .non H'
theorem ok_Logu__initu_ (T : Txt w K mg A) : FnOk P w K mg base CX0 7 A.f_Logu__initu_ A.d_Logu__initu_ ["self", "scheme", "n"] (sp_Logu__initu_ K A) := by
  refine T.F_Logu__initu_.ok sc_Logu__initu_ (fun vs H Q E h => ?_) (fun cdv Ar outer s H vs Q E hr h => ?_)
  · obtain ⟨p, dx, ps, t, n, rfl, hp, hs, wf, n1, n2, hm, hl, k⟩ := h
    rfl
  · obtain ⟨p, dx, ps, t, n, rfl, hp, hs, wf, n1, n2, hm, hl, k⟩ := h
    have hu := hu_of hr
    have t_q_PART_NAMES := T.q_PART_NAMES
    have t_q_PART_WORDS_slot := T.q_PART_WORDS_slot
    have t_d_PART_WORDS_slot := T.d_PART_WORDS_slot
    have t_q_PART_WORDS_empty := T.q_PART_WORDS_empty
    have t_d_PART_WORDS_empty := T.d_PART_WORDS_empty
    have t_q_PART_WORDS_when := T.q_PART_WORDS_when
    have t_d_PART_WORDS_when := T.d_PART_WORDS_when
    have t_q_MEASURES := T.q_MEASURES
    have t_q_SIGNS := T.q_SIGNS
    have t_q_PLAIN_FULLS := T.q_PLAIN_FULLS
    have t_i_Form := T.i_Form
    have t_kt_Form_Form := T.kt_Form_Form
    have t_kt_int_Form := T.kt_int_Form
    have t_nf_Form_Form := T.nf_Form_Form
    have t_nf_int_Form := T.nf_int_Form
    have t_xm_NoSize_NoSize := T.xm_NoSize_NoSize
    have t_xm_NoRing_NoSize := T.xm_NoRing_NoSize
    have t_xm_NoRing_NoRing := T.xm_NoRing_NoRing
    have t_xm_NotDecided_NoSize := T.xm_NotDecided_NoSize
    have t_xm_NotDecided_NoRing := T.xm_NotDecided_NoRing
    have t_xm_NotDecided_NotDecided := T.xm_NotDecided_NotDecided
    have t_xm_NoLag_NoSize := T.xm_NoLag_NoSize
    have t_xm_NoLag_NoRing := T.xm_NoLag_NoRing
    have t_xm_NoLag_NotDecided := T.xm_NoLag_NotDecided
    have t_xm_NoLag_NoLag := T.xm_NoLag_NoLag
    have t_xm_Outside_Outside := T.xm_Outside_Outside
    have t_k_Form := T.k_Form
    have t_k_Scheme := T.k_Scheme
    have t_k_Log := T.k_Log
    refine ⟨_, (pss_cons (ps_fld (pv 0) (pe_call (ok_log_modulus T) (hr.mono (by decide)) (by rfl) T.m_log_modulus T.F_log_modulus.kp T.b_log_modulus .nil Sta.passF (pa_cons (pv 1) (pa_cons (pv 2) pa_nil))) rfl)
      (pss_cons (ps_fld (pv 0) (pv 2) rfl)
      (pss_one (ps_fld (pv 0) pe_int rfl)))), ?_⟩
    try dsimp only [L2.cxOf, L2.Cx.nox, L2.Cx.wish]
    try rw [st_Logu__initu_]
    with_reducible refine Rd.seq (Rd.sfld (Rd.call (Rd.cons (Rd.var (by walk_at "vr") (Rd.cons (Rd.var (by walk_at "vr") (Rd.nil ?_)))))))
    refine ⟨_, t, _, rfl, (by assumption), (by assumption), .inr ⟨_, rfl, n1, n2, .inr ⟨hm, .inr ⟨hl, ?_⟩⟩⟩⟩
    with_reducible refine Rd.var (by walk_at "vr") (⟨_, _, _, _, rfl, (by walk_at "hp"), T.k_Log, T.n_Log_modulus, (by walk_at "sfl"), (Rd.seq (Rd.sfld (Rd.var (by walk_at "vr") (Rd.var (by walk_at "vr") (⟨_, _, _, _, rfl, (by walk_at "hp"), T.k_Log, T.n_Log_size, (by walk_at "sfl"), (Rd.sfld (Rd.c (Rd.var (by walk_at "vr") (⟨_, _, _, _, rfl, (by walk_at "hp"), T.k_Log, T.n_Log_put_count, (by walk_at "sfl"), ?_⟩))))⟩)))))⟩)
    (repeat rw [L2.upd_upd])
    rw [fL_put]
    exact k _ (by walk_at "frm") L2.upd_same
/-! check_lag -/
theorem sc_check_lag : FnScope ["thing", "most"] ["thing", "most"] (defScope s_check_lag) := ⟨rfl, rfl, rfl, by decide +kernel, rfl, by decide +kernel, by decide +kernel⟩
abbrev sp_check_lag (K : PySem.W.Frag) (A : Adr) : Sp := fun vs H Q E => ∃ (y : V) (m : Int), vs = [y, .int m] ∧ ((∃ c : Int, y = .int c ∧ 0 ≤ c ∧ c ≤ m ∧ Q .non H) ∨ (BadM K H m y ∧ ∀ H1, Same H H1 → E (.ref A.c_NoLag) none H1))
theorem ok_check_lag (T : Txt w K mg A) : FnOk P w K mg base (L2.CX P w) 3 A.f_check_lag A.d_check_lag ["thing", "most"] (sp_check_lag K A) := by
  refine T.F_check_lag.okX sc_check_lag (fun vs H Q E h => ?_) (fun cdv Ar outer s H vs Q E hr h => ?_)
  · obtain ⟨y, m, rfl, hy⟩ := h
    rfl
  · obtain ⟨y, m, rfl, hy⟩ := h
    have hu := hu_of hr
    have t_q_PART_NAMES := T.q_PART_NAMES
    have t_q_PART_WORDS_slot := T.q_PART_WORDS_slot
    have t_d_PART_WORDS_slot := T.d_PART_WORDS_slot
    have t_q_PART_WORDS_empty := T.q_PART_WORDS_empty
    have t_d_PART_WORDS_empty := T.d_PART_WORDS_empty
    have t_q_PART_WORDS_when := T.q_PART_WORDS_when
    have t_d_PART_WORDS_when := T.d_PART_WORDS_when
    have t_q_MEASURES := T.q_MEASURES
    have t_q_SIGNS := T.q_SIGNS
    have t_q_PLAIN_FULLS := T.q_PLAIN_FULLS
    have t_i_Form := T.i_Form
    have t_kt_Form_Form := T.kt_Form_Form
    have t_kt_int_Form := T.kt_int_Form
    have t_nf_Form_Form := T.nf_Form_Form
    have t_nf_int_Form := T.nf_int_Form
    have t_xm_NoSize_NoSize := T.xm_NoSize_NoSize
    have t_xm_NoRing_NoSize := T.xm_NoRing_NoSize
    have t_xm_NoRing_NoRing := T.xm_NoRing_NoRing
    have t_xm_NotDecided_NoSize := T.xm_NotDecided_NoSize
    have t_xm_NotDecided_NoRing := T.xm_NotDecided_NoRing
    have t_xm_NotDecided_NotDecided := T.xm_NotDecided_NotDecided
    have t_xm_NoLag_NoSize := T.xm_NoLag_NoSize
    have t_xm_NoLag_NoRing := T.xm_NoLag_NoRing
    have t_xm_NoLag_NotDecided := T.xm_NoLag_NotDecided
    have t_xm_NoLag_NoLag := T.xm_NoLag_NoLag
    have t_xm_Outside_Outside := T.xm_Outside_Outside
    have t_k_Form := T.k_Form
    have t_k_Scheme := T.k_Scheme
    have t_k_Log := T.k_Log
    rcases hy with ⟨c, rfl, c0, cM, k⟩ | ⟨⟨i, rfl, hb⟩ | ⟨i, rfl, hb, hb'⟩ | hb, k⟩
    · skip
      refine ⟨_, (pss_one (ps_if (pt_not (pt_val (pe_call (ok_is_whole_from T) (hr.mono (by decide)) (by rfl) T.m_is_whole_from T.F_is_whole_from.kp T.b_is_whole_from .nil pass0 (pa_cons (pv 0) (pa_cons pe_int (pa_cons (pv 1) pa_nil)))))) (pss_one ps_never) pss_nil)), ?_⟩
      try dsimp only [L2.cxOf, L2.Cx.nox, L2.Cx.wish]
      with_reducible refine Rd.ifS (Rd.not (Rd.tb (Rd.call (Rd.cons (Rd.var (by walk_at "vr") (Rd.cons (Rd.c (Rd.cons (Rd.var (by walk_at "vr") (Rd.nil ?_))))))))))
      refine ⟨_, _, _, rfl, .inl ⟨_, rfl, (by walk_at "sc"), (by walk_at "sc"), ?_⟩⟩
      with_reducible refine Rd.bl (Rd.iteF (by walk_at "bF") (Rd.next ?_))
      exact k
    · skip
      refine ⟨_, (pss_one (ps_if (pt_not (pt_val (pe_call (ok_is_whole_from T) (hr.mono (by decide)) (by rfl) T.m_is_whole_from T.F_is_whole_from.kp T.b_is_whole_from .nil pass0 (pa_cons (pv 0) (pa_cons pe_int (pa_cons (pv 1) pa_nil)))))) (pss_one (ps_raise rfl (takes_of rfl rfl rfl rfl) (pmk_own PySem.F.excBase_ValueError T.x_NoLag T.m_NoLag T.kp_NoLag (raises_own T.sb_NoLag T.tc_NoLag) rfl))) pss_nil)), ?_⟩
      try dsimp only [L2.cxOf, L2.Cx.nox, L2.Cx.wish]
      with_reducible refine Rd.ifS (Rd.not (Rd.tb (Rd.call (Rd.cons (Rd.var (by walk_at "vr") (Rd.cons (Rd.c (Rd.cons (Rd.var (by walk_at "vr") (Rd.nil ?_))))))))))
      refine ⟨_, _, _, rfl, .inr (.inl ⟨_, rfl, (by walk_at "sc"), ?_⟩)⟩
      with_reducible refine Rd.bl (Rd.iteT (by walk_at "bT") ?_)
      exact k _ (Same.refl _)
    · skip
      refine ⟨_, (pss_one (ps_if (pt_not (pt_val (pe_call (ok_is_whole_from T) (hr.mono (by decide)) (by rfl) T.m_is_whole_from T.F_is_whole_from.kp T.b_is_whole_from .nil pass0 (pa_cons (pv 0) (pa_cons pe_int (pa_cons (pv 1) pa_nil)))))) (pss_one (ps_raise rfl (takes_of rfl rfl rfl rfl) (pmk_own PySem.F.excBase_ValueError T.x_NoLag T.m_NoLag T.kp_NoLag (raises_own T.sb_NoLag T.tc_NoLag) rfl))) pss_nil)), ?_⟩
      try dsimp only [L2.cxOf, L2.Cx.nox, L2.Cx.wish]
      with_reducible refine Rd.ifS (Rd.not (Rd.tb (Rd.call (Rd.cons (Rd.var (by walk_at "vr") (Rd.cons (Rd.c (Rd.cons (Rd.var (by walk_at "vr") (Rd.nil ?_))))))))))
      refine ⟨_, _, _, rfl, .inr (.inr (.inl ⟨_, rfl, (by walk_at "sc"), (by walk_at "sc"), ?_⟩))⟩
      with_reducible refine Rd.bl (Rd.iteT (by walk_at "bT") ?_)
      exact k _ (Same.refl _)
    · skip
      refine ⟨_, (pss_one (ps_if (pt_not (pt_val (pe_call (ok_is_whole_from T) (hr.mono (by decide)) (by rfl) T.m_is_whole_from T.F_is_whole_from.kp T.b_is_whole_from .nil pass0 (pa_cons (pv 0) (pa_cons pe_int (pa_cons (pv 1) pa_nil)))))) (pss_one (ps_raise rfl (takes_of rfl rfl rfl rfl) (pmk_own PySem.F.excBase_ValueError T.x_NoLag T.m_NoLag T.kp_NoLag (raises_own T.sb_NoLag T.tc_NoLag) rfl))) pss_nil)), ?_⟩
      try dsimp only [L2.cxOf, L2.Cx.nox, L2.Cx.wish]
      with_reducible refine Rd.ifS (Rd.not (Rd.tb (Rd.call (Rd.cons (Rd.var (by walk_at "vr") (Rd.cons (Rd.c (Rd.cons (Rd.var (by walk_at "vr") (Rd.nil ?_))))))))))
      refine ⟨_, _, _, rfl, .inr (.inr (.inr ⟨(by with_reducible assumption), ?_⟩))⟩
      with_reducible refine Rd.bl (Rd.iteT (by walk_at "bT") ?_)
      exact k _ (Same.refl _)
/-! Log.__iadd__ -/
theorem sc_Logu__iaddu_ : FnScope ["self", "other"] ["self", "other"] (defScope s_Logu__iaddu_) := ⟨rfl, rfl, rfl, by decide +kernel, rfl, by decide +kernel, by decide +kernel⟩
abbrev sp_Logu__iaddu_ (K : PySem.W.Frag) (A : Adr) : Sp := fun vs H Q E => ∃ (p dx : Addr) (M n c : Int) (y : V), vs = [.ref p, y] ∧ H p = some (.ins A.c_Log dx (fL M n c)) ∧ ((∃ i : Int, y = .int i ∧ 0 ≤ i ∧ i ≤ 10000000000000000000000000000000000000000 ∧ Q (.ref p) (upd H p (.ins A.c_Log dx (fL M n (c + i))))) ∨ (BadM K H 10000000000000000000000000000000000000000 y ∧ ∀ H1, Same H H1 → E (.ref A.c_NoLag) none H1))
theorem ok_Logu__iaddu_ (T : Txt w K mg A) : FnOk P w K mg base (L2.CX P w) 4 A.f_Logu__iaddu_ A.d_Logu__iaddu_ ["self", "other"] (sp_Logu__iaddu_ K A) := by
  refine T.F_Logu__iaddu_.okX sc_Logu__iaddu_ (fun vs H Q E h => ?_) (fun cdv Ar outer s H vs Q E hr h => ?_)
  · obtain ⟨p, dx, M, n, c, y, rfl, hp, hy⟩ := h
    rfl
  · obtain ⟨p, dx, M, n, c, y, rfl, hp, hy⟩ := h
    have hu := hu_of hr
    have t_q_PART_NAMES := T.q_PART_NAMES
    have t_q_PART_WORDS_slot := T.q_PART_WORDS_slot
    have t_d_PART_WORDS_slot := T.d_PART_WORDS_slot
    have t_q_PART_WORDS_empty := T.q_PART_WORDS_empty
    have t_d_PART_WORDS_empty := T.d_PART_WORDS_empty
    have t_q_PART_WORDS_when := T.q_PART_WORDS_when
    have t_d_PART_WORDS_when := T.d_PART_WORDS_when
    have t_q_MEASURES := T.q_MEASURES
    have t_q_SIGNS := T.q_SIGNS
    have t_q_PLAIN_FULLS := T.q_PLAIN_FULLS
    have t_i_Form := T.i_Form
    have t_kt_Form_Form := T.kt_Form_Form
    have t_kt_int_Form := T.kt_int_Form
    have t_nf_Form_Form := T.nf_Form_Form
    have t_nf_int_Form := T.nf_int_Form
    have t_xm_NoSize_NoSize := T.xm_NoSize_NoSize
    have t_xm_NoRing_NoSize := T.xm_NoRing_NoSize
    have t_xm_NoRing_NoRing := T.xm_NoRing_NoRing
    have t_xm_NotDecided_NoSize := T.xm_NotDecided_NoSize
    have t_xm_NotDecided_NoRing := T.xm_NotDecided_NoRing
    have t_xm_NotDecided_NotDecided := T.xm_NotDecided_NotDecided
    have t_xm_NoLag_NoSize := T.xm_NoLag_NoSize
    have t_xm_NoLag_NoRing := T.xm_NoLag_NoRing
    have t_xm_NoLag_NotDecided := T.xm_NoLag_NotDecided
    have t_xm_NoLag_NoLag := T.xm_NoLag_NoLag
    have t_xm_Outside_Outside := T.xm_Outside_Outside
    have t_k_Form := T.k_Form
    have t_k_Scheme := T.k_Scheme
    have t_k_Log := T.k_Log
    rcases hy with ⟨i, rfl, i0, i1, k⟩ | ⟨hb, k⟩
    · skip
      refine ⟨_, (pss_cons (ps_expr (pe_call (ok_check_lag T) (hr.mono (by decide)) (by rfl) T.m_check_lag T.F_check_lag.kp T.b_check_lag .nil (passes_call (takes_of rfl rfl rfl rfl) fun _ _ _ _ h => h) (pa_cons (pv 1) (pa_cons (pe_glob (v := .int (10000000000000000000000000000000000000000)) rfl T.m_GREATEST_LAG ⟨_, rfl⟩) pa_nil))))
      (pss_cons (ps_fld (pv 0) (pe_op op_add (pe_fld (pv 0) rfl) (pv 1)) rfl)
      (pss_one (ps_ret (pv 0))))), ?_⟩
      try dsimp only [L2.cxOf, L2.Cx.nox, L2.Cx.wish]
      with_reducible refine Rd.seq (Rd.drop (Rd.call (Rd.cons (Rd.var (by walk_at "vr") (Rd.cons (Rd.c (Rd.nil ?_)))))))
      refine ⟨_, _, rfl, .inl ⟨_, rfl, (by omega), (by omega), ?_⟩⟩
      with_reducible refine Rd.seq (Rd.sfld (Rd.op (Rd.fld (Rd.var (by walk_at "vr") (⟨_, _, _, _, _, rfl, (by walk_at "hp"), T.k_Log, T.n_Log_put_count, (by walk_at "lk"), (Rd.var (by walk_at "vr") (Rd.i0 (Rd.var (by walk_at "vr") (⟨_, _, _, _, rfl, (by walk_at "hp"), T.k_Log, T.n_Log_put_count, (by walk_at "sfl"), (Rd.ret (Rd.var (by walk_at "vr") ?_))⟩))))⟩)))))
      rw [fL_set]
      exact k
    · skip
      refine ⟨_, (pss_cons (ps_expr (pe_call (ok_check_lag T) (hr.mono (by decide)) (by rfl) T.m_check_lag T.F_check_lag.kp T.b_check_lag .nil (passes_call (takes_of rfl rfl rfl rfl) fun _ _ _ _ h => h) (pa_cons (pv 1) (pa_cons (pe_glob (v := .int (10000000000000000000000000000000000000000)) rfl T.m_GREATEST_LAG ⟨_, rfl⟩) pa_nil))))
      (pss_cons ps_never (pss_one ps_never))), ?_⟩
      try dsimp only [L2.cxOf, L2.Cx.nox, L2.Cx.wish]
      with_reducible refine Rd.seq (Rd.drop (Rd.call (Rd.cons (Rd.var (by walk_at "vr") (Rd.cons (Rd.c (Rd.nil ?_)))))))
      refine ⟨_, _, rfl, .inr ⟨hb, fun H1 S1 => k _ (by walk_at "frm")⟩⟩
/-! Log.put_count -/
theorem sc_Log_put_count : FnScope ["self"] ["self"] (defScope s_Log_put_count) := ⟨rfl, rfl, rfl, by decide +kernel, rfl, by decide +kernel, by decide +kernel⟩
abbrev sp_Log_put_count (K : PySem.W.Frag) (A : Adr) : Sp := fun vs H Q _ => ∃ (p dx : Addr) (M n c : Int), vs = [.ref p] ∧ H p = some (.ins A.c_Log dx (fL M n c)) ∧ Q (.int c) H
theorem ok_Log_put_count (T : Txt w K mg A) : FnOk P w K mg base CX0 1 A.f_Log_put_count A.d_Log_put_count ["self"] (sp_Log_put_count K A) := by
  refine T.F_Log_put_count.ok sc_Log_put_count (fun vs H Q E h => ?_) (fun cdv Ar outer s H vs Q E hr h => ?_)
  · obtain ⟨p, dx, M, n, c, rfl, hp, k⟩ := h
    rfl
  · obtain ⟨p, dx, M, n, c, rfl, hp, k⟩ := h
    have hu := hu_of hr
    have t_q_PART_NAMES := T.q_PART_NAMES
    have t_q_PART_WORDS_slot := T.q_PART_WORDS_slot
    have t_d_PART_WORDS_slot := T.d_PART_WORDS_slot
    have t_q_PART_WORDS_empty := T.q_PART_WORDS_empty
    have t_d_PART_WORDS_empty := T.d_PART_WORDS_empty
    have t_q_PART_WORDS_when := T.q_PART_WORDS_when
    have t_d_PART_WORDS_when := T.d_PART_WORDS_when
    have t_q_MEASURES := T.q_MEASURES
    have t_q_SIGNS := T.q_SIGNS
    have t_q_PLAIN_FULLS := T.q_PLAIN_FULLS
    have t_i_Form := T.i_Form
    have t_kt_Form_Form := T.kt_Form_Form
    have t_kt_int_Form := T.kt_int_Form
    have t_nf_Form_Form := T.nf_Form_Form
    have t_nf_int_Form := T.nf_int_Form
    have t_xm_NoSize_NoSize := T.xm_NoSize_NoSize
    have t_xm_NoRing_NoSize := T.xm_NoRing_NoSize
    have t_xm_NoRing_NoRing := T.xm_NoRing_NoRing
    have t_xm_NotDecided_NoSize := T.xm_NotDecided_NoSize
    have t_xm_NotDecided_NoRing := T.xm_NotDecided_NoRing
    have t_xm_NotDecided_NotDecided := T.xm_NotDecided_NotDecided
    have t_xm_NoLag_NoSize := T.xm_NoLag_NoSize
    have t_xm_NoLag_NoRing := T.xm_NoLag_NoRing
    have t_xm_NoLag_NotDecided := T.xm_NoLag_NotDecided
    have t_xm_NoLag_NoLag := T.xm_NoLag_NoLag
    have t_xm_Outside_Outside := T.xm_Outside_Outside
    have t_k_Form := T.k_Form
    have t_k_Scheme := T.k_Scheme
    have t_k_Log := T.k_Log
    refine ⟨_, (pss_one (ps_ret (pe_fld (pv 0) rfl))), ?_⟩
    try dsimp only [L2.cxOf, L2.Cx.nox, L2.Cx.wish]
    with_reducible refine Rd.ret (Rd.fld (Rd.var (by walk_at "vr") (⟨_, _, _, _, _, rfl, (by walk_at "hp"), T.k_Log, T.n_Log_put_count, (by walk_at "lk"), ?_⟩)))
    exact k
/-! Log.held -/
theorem sc_Log_held : FnScope ["self"] ["self"] (defScope s_Log_held) := ⟨rfl, rfl, rfl, by decide +kernel, rfl, by decide +kernel, by decide +kernel⟩
abbrev sp_Log_held (K : PySem.W.Frag) (A : Adr) : Sp := fun vs H Q _ => ∃ (p dx : Addr) (M n c : Int), vs = [.ref p] ∧ H p = some (.ins A.c_Log dx (fL M n c)) ∧ Q (.int (if n < c then n else c)) H
theorem ok_Log_held (T : Txt w K mg A) : FnOk P w K mg base CX0 1 A.f_Log_held A.d_Log_held ["self"] (sp_Log_held K A) := by
  refine T.F_Log_held.ok sc_Log_held (fun vs H Q E h => ?_) (fun cdv Ar outer s H vs Q E hr h => ?_)
  · obtain ⟨p, dx, M, n, c, rfl, hp, k⟩ := h
    rfl
  · obtain ⟨p, dx, M, n, c, rfl, hp, k⟩ := h
    have hu := hu_of hr
    have t_q_PART_NAMES := T.q_PART_NAMES
    have t_q_PART_WORDS_slot := T.q_PART_WORDS_slot
    have t_d_PART_WORDS_slot := T.d_PART_WORDS_slot
    have t_q_PART_WORDS_empty := T.q_PART_WORDS_empty
    have t_d_PART_WORDS_empty := T.d_PART_WORDS_empty
    have t_q_PART_WORDS_when := T.q_PART_WORDS_when
    have t_d_PART_WORDS_when := T.d_PART_WORDS_when
    have t_q_MEASURES := T.q_MEASURES
    have t_q_SIGNS := T.q_SIGNS
    have t_q_PLAIN_FULLS := T.q_PLAIN_FULLS
    have t_i_Form := T.i_Form
    have t_kt_Form_Form := T.kt_Form_Form
    have t_kt_int_Form := T.kt_int_Form
    have t_nf_Form_Form := T.nf_Form_Form
    have t_nf_int_Form := T.nf_int_Form
    have t_xm_NoSize_NoSize := T.xm_NoSize_NoSize
    have t_xm_NoRing_NoSize := T.xm_NoRing_NoSize
    have t_xm_NoRing_NoRing := T.xm_NoRing_NoRing
    have t_xm_NotDecided_NoSize := T.xm_NotDecided_NoSize
    have t_xm_NotDecided_NoRing := T.xm_NotDecided_NoRing
    have t_xm_NotDecided_NotDecided := T.xm_NotDecided_NotDecided
    have t_xm_NoLag_NoSize := T.xm_NoLag_NoSize
    have t_xm_NoLag_NoRing := T.xm_NoLag_NoRing
    have t_xm_NoLag_NotDecided := T.xm_NoLag_NotDecided
    have t_xm_NoLag_NoLag := T.xm_NoLag_NoLag
    have t_xm_Outside_Outside := T.xm_Outside_Outside
    have t_k_Form := T.k_Form
    have t_k_Scheme := T.k_Scheme
    have t_k_Log := T.k_Log
    refine ⟨_, (pss_cons (ps_if (pt_cmpR op_lt (pe_fld (pv 0) rfl) (pe_fld (pv 0) rfl) (nomark _)) (pss_one (ps_ret (pe_fld (pv 0) rfl))) pss_nil)
      (pss_one (ps_ret (pe_fld (pv 0) rfl)))), ?_⟩
    try dsimp only [L2.cxOf, L2.Cx.nox, L2.Cx.wish]
    with_reducible refine Rd.seq (Rd.ifS (Rd.test (Rd.op (Rd.fld (Rd.var (by walk_at "vr") (⟨_, _, _, _, _, rfl, (by walk_at "hp"), T.k_Log, T.n_Log_put_count, (by walk_at "lk"), (Rd.fld (Rd.var (by walk_at "vr") (⟨_, _, _, _, _, rfl, (by walk_at "hp"), T.k_Log, T.n_Log_size, (by walk_at "lk"), (Rd.i0 (Rd.bl ?_))⟩)))⟩))))))
    refine Rd.ite (fun h0 => ?_) (fun h0 => ?_)
    · try simp only [decide_eq_true_eq, Bool.not_eq_true', decide_eq_false_iff_not, Bool.not_eq_true, Bool.not_eq_eq_eq_not, Bool.not_true, Bool.not_false] at h0
      with_reducible refine Rd.ret (Rd.fld (Rd.var (by walk_at "vr") (⟨_, _, _, _, _, rfl, (by walk_at "hp"), T.k_Log, T.n_Log_put_count, (by walk_at "lk"), ?_⟩)))
      first
        | (rw [if_neg (by omega)] at k; exact k)
        | (rw [show (if n < c then n else c) = n by split <;> omega] at k; exact k)
    · try simp only [decide_eq_true_eq, Bool.not_eq_true', decide_eq_false_iff_not, Bool.not_eq_true, Bool.not_eq_eq_eq_not, Bool.not_true, Bool.not_false, Int.not_lt, Int.not_le, Decidable.not_not] at h0
      with_reducible refine Rd.next (Rd.ret (Rd.fld (Rd.var (by walk_at "vr") (⟨_, _, _, _, _, rfl, (by walk_at "hp"), T.k_Log, T.n_Log_size, (by walk_at "lk"), ?_⟩))))
      first
        | (rw [if_neg (by omega)] at k; exact k)
        | (rw [show (if n < c then n else c) = n by split <;> omega] at k; exact k)
/-! Log.__getitem__ -/
theorem sc_Logu__getitemu_ : FnScope ["self", "at"] ["self", "at"] (defScope s_Logu__getitemu_) := ⟨rfl, rfl, rfl, by decide +kernel, rfl, by decide +kernel, by decide +kernel⟩
abbrev sp_Logu__getitemu_ (K : PySem.W.Frag) (A : Adr) : Sp := fun vs H Q E => ∃ (p dx : Addr) (M n c j : Int), vs = [.ref p, .int j] ∧ H p = some (.ins A.c_Log dx (fL M n c)) ∧ ((0 ≤ j ∧ j < n ∧ Q (.int (cellV n j c)) H) ∨ (j < 0 ∧ ∀ H1, Same H H1 → E (.ref A.c_Outside) none H1) ∨ (0 ≤ j ∧ n ≤ j ∧ ∀ H1, Same H H1 → E (.ref A.c_Outside) none H1))
theorem ok_Logu__getitemu_ (T : Txt w K mg A) : FnOk P w K mg base (L2.CX P w) 3 A.f_Logu__getitemu_ A.d_Logu__getitemu_ ["self", "at"] (sp_Logu__getitemu_ K A) := by
  refine T.F_Logu__getitemu_.okX sc_Logu__getitemu_ (fun vs H Q E h => ?_) (fun cdv Ar outer s H vs Q E hr h => ?_)
  · obtain ⟨p, dx, M, n, c, j, rfl, hp, hy⟩ := h
    rfl
  · obtain ⟨p, dx, M, n, c, j, rfl, hp, hy⟩ := h
    have hu := hu_of hr
    have t_q_PART_NAMES := T.q_PART_NAMES
    have t_q_PART_WORDS_slot := T.q_PART_WORDS_slot
    have t_d_PART_WORDS_slot := T.d_PART_WORDS_slot
    have t_q_PART_WORDS_empty := T.q_PART_WORDS_empty
    have t_d_PART_WORDS_empty := T.d_PART_WORDS_empty
    have t_q_PART_WORDS_when := T.q_PART_WORDS_when
    have t_d_PART_WORDS_when := T.d_PART_WORDS_when
    have t_q_MEASURES := T.q_MEASURES
    have t_q_SIGNS := T.q_SIGNS
    have t_q_PLAIN_FULLS := T.q_PLAIN_FULLS
    have t_i_Form := T.i_Form
    have t_kt_Form_Form := T.kt_Form_Form
    have t_kt_int_Form := T.kt_int_Form
    have t_nf_Form_Form := T.nf_Form_Form
    have t_nf_int_Form := T.nf_int_Form
    have t_xm_NoSize_NoSize := T.xm_NoSize_NoSize
    have t_xm_NoRing_NoSize := T.xm_NoRing_NoSize
    have t_xm_NoRing_NoRing := T.xm_NoRing_NoRing
    have t_xm_NotDecided_NoSize := T.xm_NotDecided_NoSize
    have t_xm_NotDecided_NoRing := T.xm_NotDecided_NoRing
    have t_xm_NotDecided_NotDecided := T.xm_NotDecided_NotDecided
    have t_xm_NoLag_NoSize := T.xm_NoLag_NoSize
    have t_xm_NoLag_NoRing := T.xm_NoLag_NoRing
    have t_xm_NoLag_NotDecided := T.xm_NoLag_NotDecided
    have t_xm_NoLag_NoLag := T.xm_NoLag_NoLag
    have t_xm_Outside_Outside := T.xm_Outside_Outside
    have t_k_Form := T.k_Form
    have t_k_Scheme := T.k_Scheme
    have t_k_Log := T.k_Log
    rcases hy with ⟨j0, j1, k⟩ | ⟨j0, k⟩ | ⟨j0, j1, k⟩
    · skip
      refine ⟨_, (pss_cons (ps_if (pt_not (pt_val (pe_call (ok_is_whole_from T) (hr.mono (by decide)) (by rfl) T.m_is_whole_from T.F_is_whole_from.kp T.b_is_whole_from .nil pass0 (pa_cons (pv 1) (pa_cons pe_int (pa_cons (pe_op op_sub (pe_fld (pv 0) rfl) pe_int) pa_nil)))))) (pss_one ps_never) pss_nil)
      (pss_cons (ps_if (pt_cmpR op_le (pe_fld (pv 0) rfl) (pv 1) (nomark _)) (pss_one (ps_ret pe_int)) pss_nil)
      (pss_one (ps_ret (pe_op op_sub (pe_fld (pv 0) rfl) (pe_op op_mod (pe_op op_sub (pe_op op_sub (pe_fld (pv 0) rfl) pe_int) (pv 1)) (pe_fld (pv 0) rfl))))))), ?_⟩
      try dsimp only [L2.cxOf, L2.Cx.nox, L2.Cx.wish]
      with_reducible refine Rd.seq (Rd.ifS (Rd.not (Rd.tb (Rd.call (Rd.cons (Rd.var (by walk_at "vr") (Rd.cons (Rd.c (Rd.cons (Rd.op (Rd.fld ?_)))))))))))
      with_reducible refine Rd.var (by walk_at "vr") (⟨_, _, _, _, _, rfl, (by walk_at "hp"), T.k_Log, T.n_Log_size, (by walk_at "lk"), (Rd.c (Rd.i0 (Rd.nil ?_)))⟩)
      refine ⟨_, _, _, rfl, .inl ⟨_, rfl, (by walk_at "sc"), (by walk_at "sc"), ?_⟩⟩
      with_reducible refine Rd.bl (Rd.iteF (by walk_at "bF") (Rd.next (Rd.seq (Rd.ifS (Rd.test (Rd.op (Rd.fld (Rd.var (by walk_at "vr") (⟨_, _, _, _, _, rfl, (by walk_at "hp"), T.k_Log, T.n_Log_put_count, (by walk_at "lk"), (Rd.var (by walk_at "vr") (Rd.i0 ?_))⟩)))))))))
      with_reducible refine Rd.bl ?_
      refine Rd.ite (fun h1 => ?_) (fun h1 => ?_)
      · try simp only [decide_eq_true_eq, Bool.not_eq_true', decide_eq_false_iff_not, Bool.not_eq_true, Bool.not_eq_eq_eq_not, Bool.not_true, Bool.not_false] at h1
        with_reducible refine Rd.ret (Rd.c ?_)
        first
          | (unfold cellV at k; rw [if_pos (by omega)] at k; exact k)
          | (unfold cellV at k; rw [if_neg (by omega)] at k; exact k)
      · try simp only [decide_eq_true_eq, Bool.not_eq_true', decide_eq_false_iff_not, Bool.not_eq_true, Bool.not_eq_eq_eq_not, Bool.not_true, Bool.not_false, Int.not_lt, Int.not_le, Decidable.not_not] at h1
        with_reducible refine Rd.next (Rd.ret (Rd.op (Rd.fld (Rd.var (by walk_at "vr") (⟨_, _, _, _, _, rfl, (by walk_at "hp"), T.k_Log, T.n_Log_put_count, (by walk_at "lk"), (Rd.op (Rd.op (Rd.op (Rd.fld (Rd.var (by walk_at "vr") (⟨_, _, _, _, _, rfl, (by walk_at "hp"), T.k_Log, T.n_Log_put_count, (by walk_at "lk"), ?_⟩))))))⟩)))))
        with_reducible refine Rd.c (Rd.i0 (Rd.var (by walk_at "vr") (Rd.i0 (Rd.fld (Rd.var (by walk_at "vr") (⟨_, _, _, _, _, rfl, (by walk_at "hp"), T.k_Log, T.n_Log_size, (by walk_at "lk"), (Rd.iC (by walk_at "sc") (Rd.i0 ?_))⟩))))))
        first
          | (unfold cellV at k; rw [if_pos (by omega)] at k; exact k)
          | (unfold cellV at k; rw [if_neg (by omega)] at k; exact k)
    · skip
      refine ⟨_, (pss_cons (ps_if (pt_not (pt_val (pe_call (ok_is_whole_from T) (hr.mono (by decide)) (by rfl) T.m_is_whole_from T.F_is_whole_from.kp T.b_is_whole_from .nil pass0 (pa_cons (pv 1) (pa_cons pe_int (pa_cons (pe_op op_sub (pe_fld (pv 0) rfl) pe_int) pa_nil)))))) (pss_one (ps_raise rfl (takes_of rfl rfl rfl rfl) (pmk_own PySem.F.excBase_ValueError T.x_Outside T.m_Outside T.kp_Outside (raises_own T.sb_Outside T.tc_Outside) rfl))) pss_nil)
      (pss_cons ps_never (pss_one ps_never))), ?_⟩
      try dsimp only [L2.cxOf, L2.Cx.nox, L2.Cx.wish]
      with_reducible refine Rd.seq (Rd.ifS (Rd.not (Rd.tb (Rd.call (Rd.cons (Rd.var (by walk_at "vr") (Rd.cons (Rd.c (Rd.cons (Rd.op (Rd.fld ?_)))))))))))
      with_reducible refine Rd.var (by walk_at "vr") (⟨_, _, _, _, _, rfl, (by walk_at "hp"), T.k_Log, T.n_Log_size, (by walk_at "lk"), (Rd.c (Rd.i0 (Rd.nil ?_)))⟩)
      refine ⟨_, _, _, rfl, .inr (.inl ⟨_, rfl, (by walk_at "sc"), ?_⟩)⟩
      with_reducible refine Rd.bl (Rd.iteT (by walk_at "bT") ?_)
      exact k _ (Same.refl _)
    · skip
      refine ⟨_, (pss_cons (ps_if (pt_not (pt_val (pe_call (ok_is_whole_from T) (hr.mono (by decide)) (by rfl) T.m_is_whole_from T.F_is_whole_from.kp T.b_is_whole_from .nil pass0 (pa_cons (pv 1) (pa_cons pe_int (pa_cons (pe_op op_sub (pe_fld (pv 0) rfl) pe_int) pa_nil)))))) (pss_one (ps_raise rfl (takes_of rfl rfl rfl rfl) (pmk_own PySem.F.excBase_ValueError T.x_Outside T.m_Outside T.kp_Outside (raises_own T.sb_Outside T.tc_Outside) rfl))) pss_nil)
      (pss_cons ps_never (pss_one ps_never))), ?_⟩
      try dsimp only [L2.cxOf, L2.Cx.nox, L2.Cx.wish]
      with_reducible refine Rd.seq (Rd.ifS (Rd.not (Rd.tb (Rd.call (Rd.cons (Rd.var (by walk_at "vr") (Rd.cons (Rd.c (Rd.cons (Rd.op (Rd.fld ?_)))))))))))
      with_reducible refine Rd.var (by walk_at "vr") (⟨_, _, _, _, _, rfl, (by walk_at "hp"), T.k_Log, T.n_Log_size, (by walk_at "lk"), (Rd.c (Rd.i0 (Rd.nil ?_)))⟩)
      refine ⟨_, _, _, rfl, .inr (.inr (.inl ⟨_, rfl, (by walk_at "sc"), (by walk_at "sc"), ?_⟩))⟩
      with_reducible refine Rd.bl (Rd.iteT (by walk_at "bT") ?_)
      exact k _ (Same.refl _)
/-! is_small_form -/
theorem sc_is_small_form : FnScope ["thing"] ["thing"] (defScope s_is_small_form) := ⟨rfl, rfl, rfl, by decide +kernel, rfl, by decide +kernel, by decide +kernel⟩
def sp_is_small_form (P : Program) (w : World) (mg : Str → Option Value) (base : Heap) (K : PySem.W.Frag) (A : Adr) : Sp := fun vs H Q E => vs.length = 1 ∧ ∀ (cdv : Value) (Ar : Around) (outer : List Env) (s : Shared), Room 0 (Ar.deeper (PyProof.Rows.envOfC "is_small_form" (defScope s_is_small_form) s.heap.objs.size A.f_is_small_form cdv)) → ∃ t, PSs (cxOf CX0 P w K mg base ["thing"] "is_small_form" (defScope s_is_small_form) A.f_is_small_form cdv Ar outer s H E).nox (defBody s_is_small_form) t ∧ t { nx := fun _ H' => Q .non H', rt := Q } (start ["thing"] vs) H
theorem in_is_small_form {vs : List V} {H : Hp} {Q : VK} {E : XK} (h : ∀ (cdv : Value) (Ar : Around) (outer : List Env) (s : Shared), Room 0 (Ar.deeper (PyProof.Rows.envOfC "is_small_form" (defScope s_is_small_form) s.heap.objs.size A.f_is_small_form cdv)) → ∃ t, PSs (cxOf CX0 P w K mg base ["thing"] "is_small_form" (defScope s_is_small_form) A.f_is_small_form cdv Ar outer s H E).nox (defBody s_is_small_form) t ∧ t { nx := fun _ H' => Q .non H', rt := Q } (start ["thing"] vs) H) (e : vs.length = 1) : sp_is_small_form P w mg base K A vs H Q E := ⟨e, h⟩
theorem ok_is_small_form (T : Txt w K mg A) : FnOk P w K mg base CX0 1 A.f_is_small_form A.d_is_small_form ["thing"] (sp_is_small_form P w mg base K A) := T.F_is_small_form.ok sc_is_small_form (fun _ _ _ _ h => h.1) (fun cdv Ar outer s H vs Q E hr h => h.2 cdv Ar outer s hr)
/-! is_full -/
theorem sc_is_full : FnScope ["thing"] ["thing"] (defScope s_is_full) := ⟨rfl, rfl, rfl, by decide +kernel, rfl, by decide +kernel, by decide +kernel⟩
def sp_is_full (P : Program) (w : World) (mg : Str → Option Value) (base : Heap) (K : PySem.W.Frag) (A : Adr) : Sp := fun vs H Q E => vs.length = 1 ∧ ∀ (cdv : Value) (Ar : Around) (outer : List Env) (s : Shared), Room 1 (Ar.deeper (PyProof.Rows.envOfC "is_full" (defScope s_is_full) s.heap.objs.size A.f_is_full cdv)) → ∃ t, PSs (cxOf CX0 P w K mg base ["thing"] "is_full" (defScope s_is_full) A.f_is_full cdv Ar outer s H E).nox (defBody s_is_full) t ∧ t { nx := fun _ H' => Q .non H', rt := Q } (start ["thing"] vs) H
theorem in_is_full {vs : List V} {H : Hp} {Q : VK} {E : XK} (h : ∀ (cdv : Value) (Ar : Around) (outer : List Env) (s : Shared), Room 1 (Ar.deeper (PyProof.Rows.envOfC "is_full" (defScope s_is_full) s.heap.objs.size A.f_is_full cdv)) → ∃ t, PSs (cxOf CX0 P w K mg base ["thing"] "is_full" (defScope s_is_full) A.f_is_full cdv Ar outer s H E).nox (defBody s_is_full) t ∧ t { nx := fun _ H' => Q .non H', rt := Q } (start ["thing"] vs) H) (e : vs.length = 1) : sp_is_full P w mg base K A vs H Q E := ⟨e, h⟩
theorem ok_is_full (T : Txt w K mg A) : FnOk P w K mg base CX0 2 A.f_is_full A.d_is_full ["thing"] (sp_is_full P w mg base K A) := T.F_is_full.ok sc_is_full (fun _ _ _ _ h => h.1) (fun cdv Ar outer s H vs Q E hr h => h.2 cdv Ar outer s hr)
/-! is_wrap -/
theorem sc_is_wrap : FnScope ["thing"] ["thing"] (defScope s_is_wrap) := ⟨rfl, rfl, rfl, by decide +kernel, rfl, by decide +kernel, by decide +kernel⟩
def sp_is_wrap (P : Program) (w : World) (mg : Str → Option Value) (base : Heap) (K : PySem.W.Frag) (A : Adr) : Sp := fun vs H Q E => vs.length = 1 ∧ ∀ (cdv : Value) (Ar : Around) (outer : List Env) (s : Shared), Room 2 (Ar.deeper (PyProof.Rows.envOfC "is_wrap" (defScope s_is_wrap) s.heap.objs.size A.f_is_wrap cdv)) → ∃ t, PSs (cxOf CX0 P w K mg base ["thing"] "is_wrap" (defScope s_is_wrap) A.f_is_wrap cdv Ar outer s H E).nox (defBody s_is_wrap) t ∧ t { nx := fun _ H' => Q .non H', rt := Q } (start ["thing"] vs) H
theorem in_is_wrap {vs : List V} {H : Hp} {Q : VK} {E : XK} (h : ∀ (cdv : Value) (Ar : Around) (outer : List Env) (s : Shared), Room 2 (Ar.deeper (PyProof.Rows.envOfC "is_wrap" (defScope s_is_wrap) s.heap.objs.size A.f_is_wrap cdv)) → ∃ t, PSs (cxOf CX0 P w K mg base ["thing"] "is_wrap" (defScope s_is_wrap) A.f_is_wrap cdv Ar outer s H E).nox (defBody s_is_wrap) t ∧ t { nx := fun _ H' => Q .non H', rt := Q } (start ["thing"] vs) H) (e : vs.length = 1) : sp_is_wrap P w mg base K A vs H Q E := ⟨e, h⟩
theorem ok_is_wrap (T : Txt w K mg A) : FnOk P w K mg base CX0 3 A.f_is_wrap A.d_is_wrap ["thing"] (sp_is_wrap P w mg base K A) := T.F_is_wrap.ok sc_is_wrap (fun _ _ _ _ h => h.1) (fun cdv Ar outer s H vs Q E hr h => h.2 cdv Ar outer s hr)
/-! is_part -/
theorem sc_is_part : FnScope ["part", "thing"] ["part", "thing"] (defScope s_is_part) := ⟨rfl, rfl, rfl, by decide +kernel, rfl, by decide +kernel, by decide +kernel⟩
def sp_is_part (P : Program) (w : World) (mg : Str → Option Value) (base : Heap) (K : PySem.W.Frag) (A : Adr) : Sp := fun vs H Q E => vs.length = 2 ∧ ∀ (cdv : Value) (Ar : Around) (outer : List Env) (s : Shared), Room 3 (Ar.deeper (PyProof.Rows.envOfC "is_part" (defScope s_is_part) s.heap.objs.size A.f_is_part cdv)) → ∃ t, PSs (cxOf CX0 P w K mg base ["part", "thing"] "is_part" (defScope s_is_part) A.f_is_part cdv Ar outer s H E).nox (defBody s_is_part) t ∧ t { nx := fun _ H' => Q .non H', rt := Q } (start ["part", "thing"] vs) H
theorem in_is_part {vs : List V} {H : Hp} {Q : VK} {E : XK} (h : ∀ (cdv : Value) (Ar : Around) (outer : List Env) (s : Shared), Room 3 (Ar.deeper (PyProof.Rows.envOfC "is_part" (defScope s_is_part) s.heap.objs.size A.f_is_part cdv)) → ∃ t, PSs (cxOf CX0 P w K mg base ["part", "thing"] "is_part" (defScope s_is_part) A.f_is_part cdv Ar outer s H E).nox (defBody s_is_part) t ∧ t { nx := fun _ H' => Q .non H', rt := Q } (start ["part", "thing"] vs) H) (e : vs.length = 2) : sp_is_part P w mg base K A vs H Q E := ⟨e, h⟩
theorem ok_is_part (T : Txt w K mg A) : FnOk P w K mg base CX0 4 A.f_is_part A.d_is_part ["part", "thing"] (sp_is_part P w mg base K A) := T.F_is_part.ok sc_is_part (fun _ _ _ _ h => h.1) (fun cdv Ar outer s H vs Q E hr h => h.2 cdv Ar outer s hr)
/-! first_wrong -/
theorem sc_first_wrong : FnScope ["parts", "part"] ["parts"] (defScope s_first_wrong) := ⟨rfl, rfl, rfl, by decide +kernel, rfl, by decide +kernel, by decide +kernel⟩
def sp_first_wrong (P : Program) (w : World) (mg : Str → Option Value) (base : Heap) (K : PySem.W.Frag) (A : Adr) : Sp := fun vs H Q E => vs.length = 1 ∧ ∀ (cdv : Value) (Ar : Around) (outer : List Env) (s : Shared), Room 4 (Ar.deeper (PyProof.Rows.envOfC "first_wrong" (defScope s_first_wrong) s.heap.objs.size A.f_first_wrong cdv)) → ∃ t, PSs (cxOf CX0 P w K mg base ["parts", "part"] "first_wrong" (defScope s_first_wrong) A.f_first_wrong cdv Ar outer s H E).nox (defBody s_first_wrong) t ∧ t { nx := fun _ H' => Q .non H', rt := Q } (start ["parts", "part"] vs) H
theorem in_first_wrong {vs : List V} {H : Hp} {Q : VK} {E : XK} (h : ∀ (cdv : Value) (Ar : Around) (outer : List Env) (s : Shared), Room 4 (Ar.deeper (PyProof.Rows.envOfC "first_wrong" (defScope s_first_wrong) s.heap.objs.size A.f_first_wrong cdv)) → ∃ t, PSs (cxOf CX0 P w K mg base ["parts", "part"] "first_wrong" (defScope s_first_wrong) A.f_first_wrong cdv Ar outer s H E).nox (defBody s_first_wrong) t ∧ t { nx := fun _ H' => Q .non H', rt := Q } (start ["parts", "part"] vs) H) (e : vs.length = 1) : sp_first_wrong P w mg base K A vs H Q E := ⟨e, h⟩
theorem ok_first_wrong (T : Txt w K mg A) : FnOk P w K mg base CX0 5 A.f_first_wrong A.d_first_wrong ["parts"] (sp_first_wrong P w mg base K A) := T.F_first_wrong.ok sc_first_wrong (fun _ _ _ _ h => h.1) (fun cdv Ar outer s H vs Q E hr h => h.2 cdv Ar outer s hr)
/-! Scheme.__init__ -/
theorem sc_Schemeu__initu_ : FnScope ["self", "wrap", "slot", "empty", "full", "when", "parts", "wrong"] ["self", "wrap", "slot", "empty", "full", "when"] (defScope s_Schemeu__initu_) := ⟨rfl, rfl, rfl, by decide +kernel, rfl, by decide +kernel, by decide +kernel⟩
theorem st_Schemeu__initu_ {v0 v1 v2 v3 v4 v5 : V} : L2.start ["self", "wrap", "slot", "empty", "full", "when", "parts", "wrong"] [v0, v1, v2, v3, v4, v5] = [some v0, some v1, some v2, some v3, some v4, some v5, none, none] := rfl
abbrev sp_Schemeu__initu_ (K : PySem.W.Frag) (A : Adr) : Sp := fun vs H Q _ => ∃ (p dx : Addr) (vw vf : V) (t : Pt), vs = [.ref p, vw, .str t.slot, .str t.empty, vf, .str t.wen] ∧ H p = some (.ins A.c_Scheme dx []) ∧ IsWrap A H vw t.wrap ∧ IsFull A H vf t.full ∧ Wf t ∧ ∀ (d : Addr) (H' : Hp), Frm p H H' → H d = none → H' p = some (.ins A.c_Scheme dx (fS d)) → H' d = some (.dK (kvP vw t.slot t.empty vf t.wen)) → Q .non H'
theorem ok_Schemeu__initu_ (T : Txt w K mg A) : FnOk P w K mg base CX0 6 A.f_Schemeu__initu_ A.d_Schemeu__initu_ ["self", "wrap", "slot", "empty", "full", "when"] (sp_Schemeu__initu_ K A) := by
  refine T.F_Schemeu__initu_.ok sc_Schemeu__initu_ (fun vs H Q E h => ?_) (fun cdv Ar outer s H vs Q E hr h => ?_)
  · obtain ⟨p, dx, vw, vf, ⟨wr, sl, em, fl, wn⟩, rfl, hp, hw, hf, hwf, k⟩ := h
    rfl
  · obtain ⟨p, dx, vw, vf, ⟨wr, sl, em, fl, wn⟩, rfl, hp, hw, hf, hwf, k⟩ := h
    have hu := hu_of hr
    have t_q_PART_NAMES := T.q_PART_NAMES
    have t_q_PART_WORDS_slot := T.q_PART_WORDS_slot
    have t_d_PART_WORDS_slot := T.d_PART_WORDS_slot
    have t_q_PART_WORDS_empty := T.q_PART_WORDS_empty
    have t_d_PART_WORDS_empty := T.d_PART_WORDS_empty
    have t_q_PART_WORDS_when := T.q_PART_WORDS_when
    have t_d_PART_WORDS_when := T.d_PART_WORDS_when
    have t_q_MEASURES := T.q_MEASURES
    have t_q_SIGNS := T.q_SIGNS
    have t_q_PLAIN_FULLS := T.q_PLAIN_FULLS
    have t_i_Form := T.i_Form
    have t_kt_Form_Form := T.kt_Form_Form
    have t_kt_int_Form := T.kt_int_Form
    have t_nf_Form_Form := T.nf_Form_Form
    have t_nf_int_Form := T.nf_int_Form
    have t_xm_NoSize_NoSize := T.xm_NoSize_NoSize
    have t_xm_NoRing_NoSize := T.xm_NoRing_NoSize
    have t_xm_NoRing_NoRing := T.xm_NoRing_NoRing
    have t_xm_NotDecided_NoSize := T.xm_NotDecided_NoSize
    have t_xm_NotDecided_NoRing := T.xm_NotDecided_NoRing
    have t_xm_NotDecided_NotDecided := T.xm_NotDecided_NotDecided
    have t_xm_NoLag_NoSize := T.xm_NoLag_NoSize
    have t_xm_NoLag_NoRing := T.xm_NoLag_NoRing
    have t_xm_NoLag_NotDecided := T.xm_NoLag_NotDecided
    have t_xm_NoLag_NoLag := T.xm_NoLag_NoLag
    have t_xm_Outside_Outside := T.xm_Outside_Outside
    have t_k_Form := T.k_Form
    have t_k_Scheme := T.k_Scheme
    have t_k_Log := T.k_Log
    obtain ⟨w1, w2, w3, w4, w5, w6⟩ := hwf
    dsimp only at w1 w2 w3 w4 w5 w6 hw hf k
    rcases wr with w | ⟨s, b⟩ <;> rcases fl with kk | ⟨kk, g, s2, b2⟩ <;> rcases Decidable.em (sl = "mask") with hm | hm
    any_goals (first | exact absurd hm (w6 _ _ rfl) | skip)
    · have hw : vw = .int w := hw
      subst hw
      have w1 : 1 ≤ w ∧ w ≤ 100 := w1
      obtain ⟨pf, rfl, hpf⟩ := hf
      have i4 : inV (.str kk) [.str "next", .str "note"] = true := Rd.inW (ws := ["next", "note"]) w4
      have n4 : (!inV (.str kk) [.str "next", .str "note"]) = false := Rd.notF i4
      have i2 : (!inV (.str sl) [.str "rest", .str "off", .str "mask"]) = false := Rd.notF (Rd.inW (ws := ["rest", "off", "mask"]) w2)
      have i3 : (!inV (.str em) [.str "same", .str "count", .str "note"]) = false := Rd.notF (Rd.inW (ws := ["same", "count", "note"]) w3)
      have i6 : (!inV (.str wn) [.str "refuse", .str "drop", .str "over"]) = false := Rd.notF (Rd.inW (ws := ["refuse", "drop", "over"]) w5)
      have m1 : decide (V.str sl = V.str "mask") = true := decide_eq_true (by rw [hm])
      refine ⟨_, (pss_cons (ps_set (i := 6) sc_Schemeu__initu_.nd rfl (Or.inl rfl) (pe_disp (pps_cons pe_str (pv 1) (pps_cons pe_str (pv 2) (pps_cons pe_str (pv 3) (pps_cons pe_str (pv 4) (pps_cons pe_str (pv 5) pps_nil))))) rfl rfl (by simp) (by decide)))
      (pss_cons (ps_set (i := 7) sc_Schemeu__initu_.nd rfl (Or.inl rfl) (pe_call (ok_first_wrong T) (hr.mono (by decide)) (by rfl) T.m_first_wrong T.F_first_wrong.kp T.b_first_wrong .nil pass0 (pa_cons (pv 6) pa_nil)))
      (pss_cons (ps_if (pt_cmpR op_notN (pv 7) pe_non (nomark _)) (pss_one ps_never) pss_nil)
      (pss_one (ps_fld (pv 0) (pv 6) rfl))))), ?_⟩
      try dsimp only [L2.cxOf, L2.Cx.nox, L2.Cx.wish]
      try rw [st_Schemeu__initu_]
      with_reducible refine Rd.seq (Rd.asg ?_)
      refine Rd.disp5 (fun _ _ h => Rd.var (by walk_at "vr") h) (fun _ _ h => Rd.var (by walk_at "vr") h) (fun _ _ h => Rd.var (by walk_at "vr") h) (fun _ _ h => Rd.var (by walk_at "vr") h) (fun _ _ h => Rd.var (by walk_at "vr") h) ?_
      intro pd222_16 npd222_16
      rw [kvP_merge]
      with_reducible refine Rd.name ?_
      try dsimp only [Int.reduceToNat, List.set]
      with_reducible refine Rd.seq (Rd.asg (Rd.call (Rd.cons (Rd.var (by walk_at "vr") (Rd.nil ?_)))))
      refine in_first_wrong (fun cdv Ar outer s hr => ?_) rfl
      have hu := hu_of hr
      refine ⟨_, (pss_cons (ps_for PassesOwn.never rfl (pi_tup (pe_glob (v := .ref A.t_PART_NAMES) rfl T.m_PART_NAMES rfl)) (pg_name (i := 1) sc_first_wrong.nd rfl (Or.inl rfl)) (pss_cons (ps_if (pt_not (pt_val (pe_call (ok_is_part T) (hr.mono (by decide)) (by rfl) T.m_is_part T.F_is_part.kp T.b_is_part .nil pass0 (pa_cons (pv 1) (pa_cons (pe_dget hu (pv 0) (pv 1) (fun _ _ => rfl)) pa_nil))))) (pss_one ps_never) pss_nil) (pss_one (ps_if (PW.pt (pw_and (pt_cmpR op_eq (pv 1) pe_str (nomark _)) (pw_and (pt_cmpR op_eq (pe_dget hu (pv 0) pe_str (fun _ _ => rfl)) pe_str (nomark _)) (pw_and1 (pt_val (pe_callB (Rd.isi (K := K) rfl) (by rfl) T.n_isinstance (by decide +kernel) (pa_cons (pe_dget hu (pv 0) pe_str (fun _ _ => rfl)) (pa_cons (pe_glob (v := .ref A.c_Form) rfl T.m_Form rfl) pa_nil)))))))) (pss_one ps_never) pss_nil))))
            (pss_one (ps_ret pe_non))), ?_⟩
      try dsimp only [L2.cxOf, L2.Cx.nox, L2.Cx.wish]
      with_reducible refine Rd.seq (Rd.fr (Rd.it (Rd.c (⟨_, rfl, ?_⟩))))
      refine Rd.unrollT (by walk_at "hpt") ?_
      refine Rd.unrTCons ?_
      with_reducible refine Rd.name ?_
      dsimp only [List.set]
      with_reducible refine Rd.seq (Rd.ifS (Rd.not (Rd.tb (Rd.call (Rd.cons (Rd.var (by walk_at "vr") (Rd.cons (Rd.dget (Rd.var (by walk_at "vr") (Rd.var (by walk_at "vr") ?_))))))))))
      refine Rd.dget2 (by walk_at "hp") (by walk_at "dl") ?_
      with_reducible refine Rd.nil ?_
      refine in_is_part (fun cdv Ar outer s hr => ?_) rfl
      have hu := hu_of hr
      refine ⟨_, (pss_cons (ps_if (pt_cmpR op_eq (pv 0) pe_str (nomark _)) (pss_one (ps_ret (pe_call (ok_is_wrap T) (hr.mono (by decide)) (by rfl) T.m_is_wrap T.F_is_wrap.kp T.b_is_wrap .nil pass0 (pa_cons (pv 1) pa_nil)))) pss_nil)
            (pss_cons ps_never (pss_one ps_never))), ?_⟩
      try dsimp only [L2.cxOf, L2.Cx.nox, L2.Cx.wish]
      with_reducible refine Rd.seq (Rd.ifS (Rd.test (Rd.op (Rd.var (by walk_at "vr") (Rd.c (Rd.eqS (by walk_at "vr") (Rd.bl (Rd.iteT (by first | with_unfolding_all rfl | walk_at "bT") (Rd.ret (Rd.call (Rd.cons ?_)))))))))))
      with_reducible refine Rd.var (by walk_at "vr") (Rd.nil ?_)
      refine in_is_wrap (fun cdv Ar outer s hr => ?_) rfl
      have hu := hu_of hr
      refine ⟨_, (pss_one (ps_ret (pe_or (pe_call (ok_is_small_form T) (hr.mono (by decide)) (by rfl) T.m_is_small_form T.F_is_small_form.kp T.b_is_small_form .nil pass0 (pa_cons (pv 0) pa_nil)) (pe_one (pe_call (ok_is_whole_from T) (hr.mono (by decide)) (by rfl) T.m_is_whole_from T.F_is_whole_from.kp T.b_is_whole_from .nil pass0 (pa_cons (pv 0) (pa_cons pe_int (pa_cons (pe_glob (v := .int (100)) rfl T.m_GREATEST_WIDTH ⟨_, rfl⟩) pa_nil)))))))), ?_⟩
      try dsimp only [L2.cxOf, L2.Cx.nox, L2.Cx.wish]
      with_reducible refine Rd.ret (Rd.orV (Rd.call (Rd.cons (Rd.var (by walk_at "vr") (Rd.nil ?_)))))
      refine in_is_small_form (fun cdv Ar outer s hr => ?_) rfl
      have hu := hu_of hr
      refine ⟨_, (pss_cons (ps_if (pt_not (pt_val (pe_callB (Rd.isi (K := K) rfl) (by rfl) T.n_isinstance (by decide +kernel) (pa_cons (pv 0) (pa_cons (pe_glob (v := .ref A.c_Form) rfl T.m_Form rfl) pa_nil))))) (pss_one (ps_ret pe_bl)) pss_nil)
            (pss_one ps_never)), ?_⟩
      try dsimp only [L2.cxOf, L2.Cx.nox, L2.Cx.wish]
      with_reducible refine Rd.seq (Rd.ifS (Rd.not (Rd.tb (Rd.cB (Rd.cons (Rd.var (by walk_at "vr") (Rd.cons (Rd.c (Rd.nil ?_)))))))))
      refine ⟨_, _, _, _, _, rfl, (by walk_at "clsv"), (by walk_at "tyx"), (by walk_at "kit"), ?_⟩
      with_reducible refine Rd.bl (Rd.iteT (by first | with_unfolding_all rfl | walk_at "bT") (Rd.ret (Rd.c (Rd.bl (Rd.iteF (by first | with_unfolding_all rfl | walk_at "bF") (Rd.call (Rd.cons (Rd.var (by walk_at "vr") (Rd.cons (Rd.c (Rd.cons ?_)))))))))))
      with_reducible refine Rd.c (Rd.nil ?_)
      refine ⟨_, _, _, rfl, .inl ⟨_, rfl, (by walk_at "sc"), (by walk_at "sc"), ?_⟩⟩
      with_reducible refine Rd.bl (Rd.iteF (by walk_at "bF") (Rd.next (Rd.ifS (Rd.and (Rd.test (Rd.op (Rd.var (by walk_at "vr") (Rd.c (Rd.eqS (by walk_at "vr") (Rd.bl (Rd.iteF (by first | with_unfolding_all rfl | walk_at "bF") ?_)))))))))))
      with_reducible refine Rd.iteF rfl (Rd.next ?_)
      refine ⟨by walk_at "hpt", ?_⟩
      refine Rd.unrTCons ?_
      with_reducible refine Rd.name ?_
      dsimp only [List.set]
      with_reducible refine Rd.seq (Rd.ifS (Rd.not (Rd.tb (Rd.call (Rd.cons (Rd.var (by walk_at "vr") (Rd.cons (Rd.dget (Rd.var (by walk_at "vr") (Rd.var (by walk_at "vr") ?_))))))))))
      refine Rd.dget2 (by walk_at "hp") (by walk_at "dl") ?_
      with_reducible refine Rd.nil ?_
      refine in_is_part (fun cdv Ar outer s hr => ?_) rfl
      have hu := hu_of hr
      refine ⟨_, (pss_cons (ps_if (pt_cmpR op_eq (pv 0) pe_str (nomark _)) (pss_one ps_never) pss_nil)
            (pss_cons (ps_if (pt_cmpR op_eq (pv 0) pe_str (nomark _)) (pss_one ps_never) pss_nil)
            (pss_one (ps_ret (pe_call (ok_is_word_of T) (hr.mono (by decide)) (by rfl) T.m_is_word_of T.F_is_word_of.kp T.b_is_word_of .nil pass0 (pa_cons (pv 1) (pa_cons (pe_ix ix_kdict (pe_glob (v := .ref A.t_PART_WORDS) rfl T.m_PART_WORDS rfl) (pv 0) (fun _ _ => rfl)) pa_nil))))))), ?_⟩
      try dsimp only [L2.cxOf, L2.Cx.nox, L2.Cx.wish]
      with_reducible refine Rd.seq (Rd.ifS (Rd.test (Rd.op (Rd.var (by walk_at "vr") (Rd.c (Rd.eqS (by walk_at "vr") (Rd.bl (Rd.iteF (by first | with_unfolding_all rfl | walk_at "bF") (Rd.next (Rd.seq (Rd.ifS ?_)))))))))))
      with_reducible refine Rd.test (Rd.op (Rd.var (by walk_at "vr") (Rd.c (Rd.eqS (by walk_at "vr") (Rd.bl (Rd.iteF (by first | with_unfolding_all rfl | walk_at "bF") (Rd.next (Rd.ret (Rd.call (Rd.cons (Rd.var (by walk_at "vr") ?_)))))))))))
      with_reducible refine Rd.cons (Rd.op (Rd.c (Rd.var (by walk_at "vr") ?_)))
      refine ⟨_, _, _, rfl, rfl, T.d_PART_WORDS_slot, ?_⟩
      with_reducible refine Rd.nil ?_
      refine in_is_word_of (fun cdv Ar outer s hr => ?_) rfl
      have hu := hu_of hr
      refine ⟨_, (pss_one (ps_ret (pe_and (pe_callB (Rd.isi (K := K) rfl) (by rfl) T.n_isinstance (by decide +kernel) (pa_cons (pv 0) (pa_cons (pe_bltn (v := .ty "str") (u := .type "str") (by rfl) T.n_str (by decide +kernel) rfl) pa_nil))) (pe_one (pe_cmpR op_in_seq (pv 0) (pv 1) (by with_unfolding_all rfl)))))), ?_⟩
      try dsimp only [L2.cxOf, L2.Cx.nox, L2.Cx.wish]
      with_reducible refine Rd.ret (Rd.andV (Rd.cB (Rd.cons (Rd.var (by walk_at "vr") (Rd.cons (Rd.c (Rd.nil ?_)))))))
      refine ⟨_, _, _, _, _, rfl, (by walk_at "clsv"), (by walk_at "tyx"), (by walk_at "kit"), ?_⟩
      with_reducible refine Rd.bl (Rd.iteT (by first | with_unfolding_all rfl | walk_at "bT") (Rd.op (Rd.var (by walk_at "vr") (Rd.var (by walk_at "vr") ?_))))
      refine Rd.inT (.inr (by walk_at "hpt")) rfl (by walk_at "flt") ?_
      with_reducible refine Rd.bl (Rd.iteF (by walk_at "bF") (Rd.next (Rd.ifS (Rd.and (Rd.test (Rd.op (Rd.var (by walk_at "vr") (Rd.c (Rd.eqS (by walk_at "vr") (Rd.bl (Rd.iteT (by first | with_unfolding_all rfl | walk_at "bT") ?_)))))))))))
      with_reducible refine Rd.and (Rd.test (Rd.op (Rd.dget (Rd.var (by walk_at "vr") (Rd.c ?_)))))
      refine Rd.dget2 (by walk_at "hp") (by walk_at "dl") ?_
      with_reducible refine Rd.c (Rd.eqS (by walk_at "vr") (Rd.bl (Rd.iteT (by walk_at "bT") (Rd.tb (Rd.cB (Rd.cons (Rd.dget (Rd.var (by walk_at "vr") (Rd.c ?_)))))))))
      refine Rd.dget2 (by walk_at "hp") (by walk_at "dl") ?_
      with_reducible refine Rd.cons (Rd.c (Rd.nil ?_))
      refine ⟨_, _, _, _, _, rfl, (by walk_at "clsv"), (by walk_at "tyx"), (by walk_at "kit"), ?_⟩
      with_reducible refine Rd.bl (Rd.iteF (by first | with_unfolding_all rfl | walk_at "bF") (Rd.next ?_))
      refine ⟨by walk_at "hpt", ?_⟩
      refine Rd.unrTCons ?_
      with_reducible refine Rd.name ?_
      dsimp only [List.set]
      with_reducible refine Rd.seq (Rd.ifS (Rd.not (Rd.tb (Rd.call (Rd.cons (Rd.var (by walk_at "vr") (Rd.cons (Rd.dget (Rd.var (by walk_at "vr") (Rd.var (by walk_at "vr") ?_))))))))))
      refine Rd.dget2 (by walk_at "hp") (by walk_at "dl") ?_
      with_reducible refine Rd.nil ?_
      refine in_is_part (fun cdv Ar outer s hr => ?_) rfl
      have hu := hu_of hr
      refine ⟨_, (pss_cons (ps_if (pt_cmpR op_eq (pv 0) pe_str (nomark _)) (pss_one ps_never) pss_nil)
            (pss_cons (ps_if (pt_cmpR op_eq (pv 0) pe_str (nomark _)) (pss_one ps_never) pss_nil)
            (pss_one (ps_ret (pe_call (ok_is_word_of T) (hr.mono (by decide)) (by rfl) T.m_is_word_of T.F_is_word_of.kp T.b_is_word_of .nil pass0 (pa_cons (pv 1) (pa_cons (pe_ix ix_kdict (pe_glob (v := .ref A.t_PART_WORDS) rfl T.m_PART_WORDS rfl) (pv 0) (fun _ _ => rfl)) pa_nil))))))), ?_⟩
      try dsimp only [L2.cxOf, L2.Cx.nox, L2.Cx.wish]
      with_reducible refine Rd.seq (Rd.ifS (Rd.test (Rd.op (Rd.var (by walk_at "vr") (Rd.c (Rd.eqS (by walk_at "vr") (Rd.bl (Rd.iteF (by first | with_unfolding_all rfl | walk_at "bF") (Rd.next (Rd.seq (Rd.ifS ?_)))))))))))
      with_reducible refine Rd.test (Rd.op (Rd.var (by walk_at "vr") (Rd.c (Rd.eqS (by walk_at "vr") (Rd.bl (Rd.iteF (by first | with_unfolding_all rfl | walk_at "bF") (Rd.next (Rd.ret (Rd.call (Rd.cons (Rd.var (by walk_at "vr") ?_)))))))))))
      with_reducible refine Rd.cons (Rd.op (Rd.c (Rd.var (by walk_at "vr") ?_)))
      refine ⟨_, _, _, rfl, rfl, T.d_PART_WORDS_empty, ?_⟩
      with_reducible refine Rd.nil ?_
      refine in_is_word_of (fun cdv Ar outer s hr => ?_) rfl
      have hu := hu_of hr
      refine ⟨_, (pss_one (ps_ret (pe_and (pe_callB (Rd.isi (K := K) rfl) (by rfl) T.n_isinstance (by decide +kernel) (pa_cons (pv 0) (pa_cons (pe_bltn (v := .ty "str") (u := .type "str") (by rfl) T.n_str (by decide +kernel) rfl) pa_nil))) (pe_one (pe_cmpR op_in_seq (pv 0) (pv 1) (by with_unfolding_all rfl)))))), ?_⟩
      try dsimp only [L2.cxOf, L2.Cx.nox, L2.Cx.wish]
      with_reducible refine Rd.ret (Rd.andV (Rd.cB (Rd.cons (Rd.var (by walk_at "vr") (Rd.cons (Rd.c (Rd.nil ?_)))))))
      refine ⟨_, _, _, _, _, rfl, (by walk_at "clsv"), (by walk_at "tyx"), (by walk_at "kit"), ?_⟩
      with_reducible refine Rd.bl (Rd.iteT (by first | with_unfolding_all rfl | walk_at "bT") (Rd.op (Rd.var (by walk_at "vr") (Rd.var (by walk_at "vr") ?_))))
      refine Rd.inT (.inr (by walk_at "hpt")) rfl (by walk_at "flt") ?_
      with_reducible refine Rd.bl (Rd.iteF (by walk_at "bF") (Rd.next (Rd.ifS (Rd.and (Rd.test (Rd.op (Rd.var (by walk_at "vr") (Rd.c (Rd.eqS (by walk_at "vr") (Rd.bl (Rd.iteF (by first | with_unfolding_all rfl | walk_at "bF") ?_)))))))))))
      with_reducible refine Rd.iteF rfl (Rd.next ?_)
      refine ⟨by walk_at "hpt", ?_⟩
      refine Rd.unrTCons ?_
      with_reducible refine Rd.name ?_
      dsimp only [List.set]
      with_reducible refine Rd.seq (Rd.ifS (Rd.not (Rd.tb (Rd.call (Rd.cons (Rd.var (by walk_at "vr") (Rd.cons (Rd.dget (Rd.var (by walk_at "vr") (Rd.var (by walk_at "vr") ?_))))))))))
      refine Rd.dget2 (by walk_at "hp") (by walk_at "dl") ?_
      with_reducible refine Rd.nil ?_
      refine in_is_part (fun cdv Ar outer s hr => ?_) rfl
      have hu := hu_of hr
      refine ⟨_, (pss_cons (ps_if (pt_cmpR op_eq (pv 0) pe_str (nomark _)) (pss_one ps_never) pss_nil)
            (pss_cons (ps_if (pt_cmpR op_eq (pv 0) pe_str (nomark _)) (pss_one (ps_ret (pe_call (ok_is_full T) (hr.mono (by decide)) (by rfl) T.m_is_full T.F_is_full.kp T.b_is_full .nil pass0 (pa_cons (pv 1) pa_nil)))) pss_nil)
            (pss_one ps_never))), ?_⟩
      try dsimp only [L2.cxOf, L2.Cx.nox, L2.Cx.wish]
      with_reducible refine Rd.seq (Rd.ifS (Rd.test (Rd.op (Rd.var (by walk_at "vr") (Rd.c (Rd.eqS (by walk_at "vr") (Rd.bl (Rd.iteF (by first | with_unfolding_all rfl | walk_at "bF") (Rd.next (Rd.seq (Rd.ifS ?_)))))))))))
      with_reducible refine Rd.test (Rd.op (Rd.var (by walk_at "vr") (Rd.c (Rd.eqS (by walk_at "vr") (Rd.bl (Rd.iteT (by first | with_unfolding_all rfl | walk_at "bT") (Rd.ret (Rd.call (Rd.cons (Rd.var (by walk_at "vr") (Rd.nil ?_)))))))))))
      refine in_is_full (fun cdv Ar outer s hr => ?_) rfl
      have hu := hu_of hr
      refine ⟨_, (pss_cons (ps_if (pt_not (pt_val (pe_callB (Rd.isi (K := K) rfl) (by rfl) T.n_isinstance (by decide +kernel) (pa_cons (pv 0) (pa_cons (pe_bltn (v := .ty "tuple") (u := .type "tuple") (by rfl) T.n_tuple (by decide +kernel) rfl) pa_nil))))) (pss_one ps_never) pss_nil)
            (pss_cons (ps_if (pt_cmpR op_eq (pe_callB call_len_seq (by rfl) T.n_len PySem.boot_len (pa_cons (pv 0) pa_nil)) pe_int (nomark _)) (pss_one (ps_ret (pe_call (ok_is_word_of T) (hr.mono (by decide)) (by rfl) T.m_is_word_of T.F_is_word_of.kp T.b_is_word_of .nil pass0 (pa_cons (pe_ix (Rd.ixTK rfl) (pv 0) pe_int (fun _ _ => rfl)) (pa_cons (pe_glob (v := .ref A.t_PLAIN_FULLS) rfl T.m_PLAIN_FULLS rfl) pa_nil))))) pss_nil)
            (pss_cons ps_never (pss_one ps_never)))), ?_⟩
      try dsimp only [L2.cxOf, L2.Cx.nox, L2.Cx.wish]
      with_reducible refine Rd.seq (Rd.ifS (Rd.not (Rd.tb (Rd.cB (Rd.cons (Rd.var (by walk_at "vr") (Rd.cons (Rd.c (Rd.nil ?_)))))))))
      refine ⟨_, _, _, _, _, rfl, (by walk_at "clsv"), (by walk_at "tyx"), (by walk_at "kit"), ?_⟩
      with_reducible refine Rd.bl (Rd.iteF (by first | with_unfolding_all rfl | walk_at "bF") (Rd.next (Rd.seq (Rd.ifS (Rd.test (Rd.op (Rd.cB (Rd.cons (Rd.var (by walk_at "vr") (Rd.nil (⟨_, _, rfl, (by walk_at "hpq"), ?_⟩)))))))))))
      with_reducible refine Rd.c (Rd.eqS (by walk_at "vr") (Rd.bl (Rd.iteT (by first | with_unfolding_all rfl | walk_at "bT") (Rd.ret (Rd.call (Rd.cons (Rd.op (Rd.var (by walk_at "vr") (Rd.c (Rd.ixT (by walk_at "hpt") (by walk_at "vr") (Rd.cons ?_)))))))))))
      with_reducible refine Rd.c (Rd.nil ?_)
      refine in_is_word_of (fun cdv Ar outer s hr => ?_) rfl
      have hu := hu_of hr
      refine ⟨_, (pss_one (ps_ret (pe_and (pe_callB (Rd.isi (K := K) rfl) (by rfl) T.n_isinstance (by decide +kernel) (pa_cons (pv 0) (pa_cons (pe_bltn (v := .ty "str") (u := .type "str") (by rfl) T.n_str (by decide +kernel) rfl) pa_nil))) (pe_one (pe_cmpR op_in_seq (pv 0) (pv 1) (by with_unfolding_all rfl)))))), ?_⟩
      try dsimp only [L2.cxOf, L2.Cx.nox, L2.Cx.wish]
      with_reducible refine Rd.ret (Rd.andV (Rd.cB (Rd.cons (Rd.var (by walk_at "vr") (Rd.cons (Rd.c (Rd.nil ?_)))))))
      refine ⟨_, _, _, _, _, rfl, (by walk_at "clsv"), (by walk_at "tyx"), (by walk_at "kit"), ?_⟩
      with_reducible refine Rd.bl (Rd.iteT (by first | with_unfolding_all rfl | walk_at "bT") (Rd.op (Rd.var (by walk_at "vr") (Rd.var (by walk_at "vr") ?_))))
      refine Rd.inT (.inr (by walk_at "hpt")) rfl (by walk_at "flt") ?_
      with_reducible refine Rd.bl (Rd.iteF (by walk_at "bF") (Rd.next (Rd.ifS (Rd.and (Rd.test (Rd.op (Rd.var (by walk_at "vr") (Rd.c (Rd.eqS (by walk_at "vr") (Rd.bl (Rd.iteF (by first | with_unfolding_all rfl | walk_at "bF") ?_)))))))))))
      with_reducible refine Rd.iteF rfl (Rd.next ?_)
      refine ⟨by walk_at "hpt", ?_⟩
      refine Rd.unrTCons ?_
      with_reducible refine Rd.name ?_
      dsimp only [List.set]
      with_reducible refine Rd.seq (Rd.ifS (Rd.not (Rd.tb (Rd.call (Rd.cons (Rd.var (by walk_at "vr") (Rd.cons (Rd.dget (Rd.var (by walk_at "vr") (Rd.var (by walk_at "vr") ?_))))))))))
      refine Rd.dget2 (by walk_at "hp") (by walk_at "dl") ?_
      with_reducible refine Rd.nil ?_
      refine in_is_part (fun cdv Ar outer s hr => ?_) rfl
      have hu := hu_of hr
      refine ⟨_, (pss_cons (ps_if (pt_cmpR op_eq (pv 0) pe_str (nomark _)) (pss_one ps_never) pss_nil)
            (pss_cons (ps_if (pt_cmpR op_eq (pv 0) pe_str (nomark _)) (pss_one ps_never) pss_nil)
            (pss_one (ps_ret (pe_call (ok_is_word_of T) (hr.mono (by decide)) (by rfl) T.m_is_word_of T.F_is_word_of.kp T.b_is_word_of .nil pass0 (pa_cons (pv 1) (pa_cons (pe_ix ix_kdict (pe_glob (v := .ref A.t_PART_WORDS) rfl T.m_PART_WORDS rfl) (pv 0) (fun _ _ => rfl)) pa_nil))))))), ?_⟩
      try dsimp only [L2.cxOf, L2.Cx.nox, L2.Cx.wish]
      with_reducible refine Rd.seq (Rd.ifS (Rd.test (Rd.op (Rd.var (by walk_at "vr") (Rd.c (Rd.eqS (by walk_at "vr") (Rd.bl (Rd.iteF (by first | with_unfolding_all rfl | walk_at "bF") (Rd.next (Rd.seq (Rd.ifS ?_)))))))))))
      with_reducible refine Rd.test (Rd.op (Rd.var (by walk_at "vr") (Rd.c (Rd.eqS (by walk_at "vr") (Rd.bl (Rd.iteF (by first | with_unfolding_all rfl | walk_at "bF") (Rd.next (Rd.ret (Rd.call (Rd.cons (Rd.var (by walk_at "vr") ?_)))))))))))
      with_reducible refine Rd.cons (Rd.op (Rd.c (Rd.var (by walk_at "vr") ?_)))
      refine ⟨_, _, _, rfl, rfl, T.d_PART_WORDS_when, ?_⟩
      with_reducible refine Rd.nil ?_
      refine in_is_word_of (fun cdv Ar outer s hr => ?_) rfl
      have hu := hu_of hr
      refine ⟨_, (pss_one (ps_ret (pe_and (pe_callB (Rd.isi (K := K) rfl) (by rfl) T.n_isinstance (by decide +kernel) (pa_cons (pv 0) (pa_cons (pe_bltn (v := .ty "str") (u := .type "str") (by rfl) T.n_str (by decide +kernel) rfl) pa_nil))) (pe_one (pe_cmpR op_in_seq (pv 0) (pv 1) (by with_unfolding_all rfl)))))), ?_⟩
      try dsimp only [L2.cxOf, L2.Cx.nox, L2.Cx.wish]
      with_reducible refine Rd.ret (Rd.andV (Rd.cB (Rd.cons (Rd.var (by walk_at "vr") (Rd.cons (Rd.c (Rd.nil ?_)))))))
      refine ⟨_, _, _, _, _, rfl, (by walk_at "clsv"), (by walk_at "tyx"), (by walk_at "kit"), ?_⟩
      with_reducible refine Rd.bl (Rd.iteT (by first | with_unfolding_all rfl | walk_at "bT") (Rd.op (Rd.var (by walk_at "vr") (Rd.var (by walk_at "vr") ?_))))
      refine Rd.inT (.inr (by walk_at "hpt")) rfl (by walk_at "flt") ?_
      with_reducible refine Rd.bl (Rd.iteF (by walk_at "bF") (Rd.next (Rd.ifS (Rd.and (Rd.test (Rd.op (Rd.var (by walk_at "vr") (Rd.c (Rd.eqS (by walk_at "vr") (Rd.bl (Rd.iteF (by first | with_unfolding_all rfl | walk_at "bF") ?_)))))))))))
      with_reducible refine Rd.iteF rfl (Rd.next ?_)
      refine ⟨by walk_at "hpt", ?_⟩
      refine Rd.unrTNil ?_
      with_reducible refine Rd.ret (Rd.c (Rd.name ?_))
      try dsimp only [Int.reduceToNat, List.set]
      with_reducible refine Rd.seq (Rd.ifS (Rd.test (Rd.op (Rd.var (by walk_at "vr") (Rd.c (⟨rfl, (Rd.bl (Rd.iteF (by first | with_unfolding_all rfl | walk_at "bF") (Rd.next (Rd.sfld (Rd.var (by walk_at "vr") ?_)))))⟩))))))
      with_reducible refine Rd.var (by walk_at "vr") (⟨_, _, _, _, rfl, (by walk_at "hp"), T.k_Scheme, T.n_Scheme_parts, (by walk_at "sfl"), ?_⟩)
      rw [fS_put]
      exact k _ _ (by walk_at "frm") (by assumption) L2.upd_same (by walk_at "hp")
    · have hw : vw = .int w := hw
      subst hw
      have w1 : 1 ≤ w ∧ w ≤ 100 := w1
      obtain ⟨pf, rfl, hpf⟩ := hf
      have i4 : inV (.str kk) [.str "next", .str "note"] = true := Rd.inW (ws := ["next", "note"]) w4
      have n4 : (!inV (.str kk) [.str "next", .str "note"]) = false := Rd.notF i4
      have i2 : (!inV (.str sl) [.str "rest", .str "off", .str "mask"]) = false := Rd.notF (Rd.inW (ws := ["rest", "off", "mask"]) w2)
      have i3 : (!inV (.str em) [.str "same", .str "count", .str "note"]) = false := Rd.notF (Rd.inW (ws := ["same", "count", "note"]) w3)
      have i6 : (!inV (.str wn) [.str "refuse", .str "drop", .str "over"]) = false := Rd.notF (Rd.inW (ws := ["refuse", "drop", "over"]) w5)
      have m1 : decide (V.str sl = V.str "mask") = false := nmask hm
      refine ⟨_, (pss_cons (ps_set (i := 6) sc_Schemeu__initu_.nd rfl (Or.inl rfl) (pe_disp (pps_cons pe_str (pv 1) (pps_cons pe_str (pv 2) (pps_cons pe_str (pv 3) (pps_cons pe_str (pv 4) (pps_cons pe_str (pv 5) pps_nil))))) rfl rfl (by simp) (by decide)))
      (pss_cons (ps_set (i := 7) sc_Schemeu__initu_.nd rfl (Or.inl rfl) (pe_call (ok_first_wrong T) (hr.mono (by decide)) (by rfl) T.m_first_wrong T.F_first_wrong.kp T.b_first_wrong .nil pass0 (pa_cons (pv 6) pa_nil)))
      (pss_cons (ps_if (pt_cmpR op_notN (pv 7) pe_non (nomark _)) (pss_one ps_never) pss_nil)
      (pss_one (ps_fld (pv 0) (pv 6) rfl))))), ?_⟩
      try dsimp only [L2.cxOf, L2.Cx.nox, L2.Cx.wish]
      try rw [st_Schemeu__initu_]
      with_reducible refine Rd.seq (Rd.asg ?_)
      refine Rd.disp5 (fun _ _ h => Rd.var (by walk_at "vr") h) (fun _ _ h => Rd.var (by walk_at "vr") h) (fun _ _ h => Rd.var (by walk_at "vr") h) (fun _ _ h => Rd.var (by walk_at "vr") h) (fun _ _ h => Rd.var (by walk_at "vr") h) ?_
      intro pd222_16 npd222_16
      rw [kvP_merge]
      with_reducible refine Rd.name ?_
      try dsimp only [Int.reduceToNat, List.set]
      with_reducible refine Rd.seq (Rd.asg (Rd.call (Rd.cons (Rd.var (by walk_at "vr") (Rd.nil ?_)))))
      refine in_first_wrong (fun cdv Ar outer s hr => ?_) rfl
      have hu := hu_of hr
      refine ⟨_, (pss_cons (ps_for PassesOwn.never rfl (pi_tup (pe_glob (v := .ref A.t_PART_NAMES) rfl T.m_PART_NAMES rfl)) (pg_name (i := 1) sc_first_wrong.nd rfl (Or.inl rfl)) (pss_cons (ps_if (pt_not (pt_val (pe_call (ok_is_part T) (hr.mono (by decide)) (by rfl) T.m_is_part T.F_is_part.kp T.b_is_part .nil pass0 (pa_cons (pv 1) (pa_cons (pe_dget hu (pv 0) (pv 1) (fun _ _ => rfl)) pa_nil))))) (pss_one ps_never) pss_nil) (pss_one (ps_if (PW.pt (pw_and (pt_cmpR op_eq (pv 1) pe_str (nomark _)) (pw_and (pt_cmpR op_eq (pe_dget hu (pv 0) pe_str (fun _ _ => rfl)) pe_str (nomark _)) (pw_and1 Rd.ptN)))) (pss_one ps_never) pss_nil))))
            (pss_one (ps_ret pe_non))), ?_⟩
      try dsimp only [L2.cxOf, L2.Cx.nox, L2.Cx.wish]
      with_reducible refine Rd.seq (Rd.fr (Rd.it (Rd.c (⟨_, rfl, ?_⟩))))
      refine Rd.unrollT (by walk_at "hpt") ?_
      refine Rd.unrTCons ?_
      with_reducible refine Rd.name ?_
      dsimp only [List.set]
      with_reducible refine Rd.seq (Rd.ifS (Rd.not (Rd.tb (Rd.call (Rd.cons (Rd.var (by walk_at "vr") (Rd.cons (Rd.dget (Rd.var (by walk_at "vr") (Rd.var (by walk_at "vr") ?_))))))))))
      refine Rd.dget2 (by walk_at "hp") (by walk_at "dl") ?_
      with_reducible refine Rd.nil ?_
      refine in_is_part (fun cdv Ar outer s hr => ?_) rfl
      have hu := hu_of hr
      refine ⟨_, (pss_cons (ps_if (pt_cmpR op_eq (pv 0) pe_str (nomark _)) (pss_one (ps_ret (pe_call (ok_is_wrap T) (hr.mono (by decide)) (by rfl) T.m_is_wrap T.F_is_wrap.kp T.b_is_wrap .nil pass0 (pa_cons (pv 1) pa_nil)))) pss_nil)
            (pss_cons ps_never (pss_one ps_never))), ?_⟩
      try dsimp only [L2.cxOf, L2.Cx.nox, L2.Cx.wish]
      with_reducible refine Rd.seq (Rd.ifS (Rd.test (Rd.op (Rd.var (by walk_at "vr") (Rd.c (Rd.eqS (by walk_at "vr") (Rd.bl (Rd.iteT (by first | with_unfolding_all rfl | walk_at "bT") (Rd.ret (Rd.call (Rd.cons ?_)))))))))))
      with_reducible refine Rd.var (by walk_at "vr") (Rd.nil ?_)
      refine in_is_wrap (fun cdv Ar outer s hr => ?_) rfl
      have hu := hu_of hr
      refine ⟨_, (pss_one (ps_ret (pe_or (pe_call (ok_is_small_form T) (hr.mono (by decide)) (by rfl) T.m_is_small_form T.F_is_small_form.kp T.b_is_small_form .nil pass0 (pa_cons (pv 0) pa_nil)) (pe_one (pe_call (ok_is_whole_from T) (hr.mono (by decide)) (by rfl) T.m_is_whole_from T.F_is_whole_from.kp T.b_is_whole_from .nil pass0 (pa_cons (pv 0) (pa_cons pe_int (pa_cons (pe_glob (v := .int (100)) rfl T.m_GREATEST_WIDTH ⟨_, rfl⟩) pa_nil)))))))), ?_⟩
      try dsimp only [L2.cxOf, L2.Cx.nox, L2.Cx.wish]
      with_reducible refine Rd.ret (Rd.orV (Rd.call (Rd.cons (Rd.var (by walk_at "vr") (Rd.nil ?_)))))
      refine in_is_small_form (fun cdv Ar outer s hr => ?_) rfl
      have hu := hu_of hr
      refine ⟨_, (pss_cons (ps_if (pt_not (pt_val (pe_callB (Rd.isi (K := K) rfl) (by rfl) T.n_isinstance (by decide +kernel) (pa_cons (pv 0) (pa_cons (pe_glob (v := .ref A.c_Form) rfl T.m_Form rfl) pa_nil))))) (pss_one (ps_ret pe_bl)) pss_nil)
            (pss_one ps_never)), ?_⟩
      try dsimp only [L2.cxOf, L2.Cx.nox, L2.Cx.wish]
      with_reducible refine Rd.seq (Rd.ifS (Rd.not (Rd.tb (Rd.cB (Rd.cons (Rd.var (by walk_at "vr") (Rd.cons (Rd.c (Rd.nil ?_)))))))))
      refine ⟨_, _, _, _, _, rfl, (by walk_at "clsv"), (by walk_at "tyx"), (by walk_at "kit"), ?_⟩
      with_reducible refine Rd.bl (Rd.iteT (by first | with_unfolding_all rfl | walk_at "bT") (Rd.ret (Rd.c (Rd.bl (Rd.iteF (by first | with_unfolding_all rfl | walk_at "bF") (Rd.call (Rd.cons (Rd.var (by walk_at "vr") (Rd.cons (Rd.c (Rd.cons ?_)))))))))))
      with_reducible refine Rd.c (Rd.nil ?_)
      refine ⟨_, _, _, rfl, .inl ⟨_, rfl, (by walk_at "sc"), (by walk_at "sc"), ?_⟩⟩
      with_reducible refine Rd.bl (Rd.iteF (by walk_at "bF") (Rd.next (Rd.ifS (Rd.and (Rd.test (Rd.op (Rd.var (by walk_at "vr") (Rd.c (Rd.eqS (by walk_at "vr") (Rd.bl (Rd.iteF (by first | with_unfolding_all rfl | walk_at "bF") ?_)))))))))))
      with_reducible refine Rd.iteF rfl (Rd.next ?_)
      refine ⟨by walk_at "hpt", ?_⟩
      refine Rd.unrTCons ?_
      with_reducible refine Rd.name ?_
      dsimp only [List.set]
      with_reducible refine Rd.seq (Rd.ifS (Rd.not (Rd.tb (Rd.call (Rd.cons (Rd.var (by walk_at "vr") (Rd.cons (Rd.dget (Rd.var (by walk_at "vr") (Rd.var (by walk_at "vr") ?_))))))))))
      refine Rd.dget2 (by walk_at "hp") (by walk_at "dl") ?_
      with_reducible refine Rd.nil ?_
      refine in_is_part (fun cdv Ar outer s hr => ?_) rfl
      have hu := hu_of hr
      refine ⟨_, (pss_cons (ps_if (pt_cmpR op_eq (pv 0) pe_str (nomark _)) (pss_one ps_never) pss_nil)
            (pss_cons (ps_if (pt_cmpR op_eq (pv 0) pe_str (nomark _)) (pss_one ps_never) pss_nil)
            (pss_one (ps_ret (pe_call (ok_is_word_of T) (hr.mono (by decide)) (by rfl) T.m_is_word_of T.F_is_word_of.kp T.b_is_word_of .nil pass0 (pa_cons (pv 1) (pa_cons (pe_ix ix_kdict (pe_glob (v := .ref A.t_PART_WORDS) rfl T.m_PART_WORDS rfl) (pv 0) (fun _ _ => rfl)) pa_nil))))))), ?_⟩
      try dsimp only [L2.cxOf, L2.Cx.nox, L2.Cx.wish]
      with_reducible refine Rd.seq (Rd.ifS (Rd.test (Rd.op (Rd.var (by walk_at "vr") (Rd.c (Rd.eqS (by walk_at "vr") (Rd.bl (Rd.iteF (by first | with_unfolding_all rfl | walk_at "bF") (Rd.next (Rd.seq (Rd.ifS ?_)))))))))))
      with_reducible refine Rd.test (Rd.op (Rd.var (by walk_at "vr") (Rd.c (Rd.eqS (by walk_at "vr") (Rd.bl (Rd.iteF (by first | with_unfolding_all rfl | walk_at "bF") (Rd.next (Rd.ret (Rd.call (Rd.cons (Rd.var (by walk_at "vr") ?_)))))))))))
      with_reducible refine Rd.cons (Rd.op (Rd.c (Rd.var (by walk_at "vr") ?_)))
      refine ⟨_, _, _, rfl, rfl, T.d_PART_WORDS_slot, ?_⟩
      with_reducible refine Rd.nil ?_
      refine in_is_word_of (fun cdv Ar outer s hr => ?_) rfl
      have hu := hu_of hr
      refine ⟨_, (pss_one (ps_ret (pe_and (pe_callB (Rd.isi (K := K) rfl) (by rfl) T.n_isinstance (by decide +kernel) (pa_cons (pv 0) (pa_cons (pe_bltn (v := .ty "str") (u := .type "str") (by rfl) T.n_str (by decide +kernel) rfl) pa_nil))) (pe_one (pe_cmpR op_in_seq (pv 0) (pv 1) (by with_unfolding_all rfl)))))), ?_⟩
      try dsimp only [L2.cxOf, L2.Cx.nox, L2.Cx.wish]
      with_reducible refine Rd.ret (Rd.andV (Rd.cB (Rd.cons (Rd.var (by walk_at "vr") (Rd.cons (Rd.c (Rd.nil ?_)))))))
      refine ⟨_, _, _, _, _, rfl, (by walk_at "clsv"), (by walk_at "tyx"), (by walk_at "kit"), ?_⟩
      with_reducible refine Rd.bl (Rd.iteT (by first | with_unfolding_all rfl | walk_at "bT") (Rd.op (Rd.var (by walk_at "vr") (Rd.var (by walk_at "vr") ?_))))
      refine Rd.inT (.inr (by walk_at "hpt")) rfl (by walk_at "flt") ?_
      with_reducible refine Rd.bl (Rd.iteF (by walk_at "bF") (Rd.next (Rd.ifS (Rd.and (Rd.test (Rd.op (Rd.var (by walk_at "vr") (Rd.c (Rd.eqS (by walk_at "vr") (Rd.bl (Rd.iteT (by first | with_unfolding_all rfl | walk_at "bT") ?_)))))))))))
      with_reducible refine Rd.and (Rd.test (Rd.op (Rd.dget (Rd.var (by walk_at "vr") (Rd.c ?_)))))
      refine Rd.dget2 (by walk_at "hp") (by walk_at "dl") ?_
      with_reducible refine Rd.c (Rd.eqS (by walk_at "vr") (Rd.bl (Rd.iteF (by walk_at "bF") (Rd.iteF rfl (Rd.next ?_)))))
      refine ⟨by walk_at "hpt", ?_⟩
      refine Rd.unrTCons ?_
      with_reducible refine Rd.name ?_
      dsimp only [List.set]
      with_reducible refine Rd.seq (Rd.ifS (Rd.not (Rd.tb (Rd.call (Rd.cons (Rd.var (by walk_at "vr") (Rd.cons (Rd.dget (Rd.var (by walk_at "vr") (Rd.var (by walk_at "vr") ?_))))))))))
      refine Rd.dget2 (by walk_at "hp") (by walk_at "dl") ?_
      with_reducible refine Rd.nil ?_
      refine in_is_part (fun cdv Ar outer s hr => ?_) rfl
      have hu := hu_of hr
      refine ⟨_, (pss_cons (ps_if (pt_cmpR op_eq (pv 0) pe_str (nomark _)) (pss_one ps_never) pss_nil)
            (pss_cons (ps_if (pt_cmpR op_eq (pv 0) pe_str (nomark _)) (pss_one ps_never) pss_nil)
            (pss_one (ps_ret (pe_call (ok_is_word_of T) (hr.mono (by decide)) (by rfl) T.m_is_word_of T.F_is_word_of.kp T.b_is_word_of .nil pass0 (pa_cons (pv 1) (pa_cons (pe_ix ix_kdict (pe_glob (v := .ref A.t_PART_WORDS) rfl T.m_PART_WORDS rfl) (pv 0) (fun _ _ => rfl)) pa_nil))))))), ?_⟩
      try dsimp only [L2.cxOf, L2.Cx.nox, L2.Cx.wish]
      with_reducible refine Rd.seq (Rd.ifS (Rd.test (Rd.op (Rd.var (by walk_at "vr") (Rd.c (Rd.eqS (by walk_at "vr") (Rd.bl (Rd.iteF (by first | with_unfolding_all rfl | walk_at "bF") (Rd.next (Rd.seq (Rd.ifS ?_)))))))))))
      with_reducible refine Rd.test (Rd.op (Rd.var (by walk_at "vr") (Rd.c (Rd.eqS (by walk_at "vr") (Rd.bl (Rd.iteF (by first | with_unfolding_all rfl | walk_at "bF") (Rd.next (Rd.ret (Rd.call (Rd.cons (Rd.var (by walk_at "vr") ?_)))))))))))
      with_reducible refine Rd.cons (Rd.op (Rd.c (Rd.var (by walk_at "vr") ?_)))
      refine ⟨_, _, _, rfl, rfl, T.d_PART_WORDS_empty, ?_⟩
      with_reducible refine Rd.nil ?_
      refine in_is_word_of (fun cdv Ar outer s hr => ?_) rfl
      have hu := hu_of hr
      refine ⟨_, (pss_one (ps_ret (pe_and (pe_callB (Rd.isi (K := K) rfl) (by rfl) T.n_isinstance (by decide +kernel) (pa_cons (pv 0) (pa_cons (pe_bltn (v := .ty "str") (u := .type "str") (by rfl) T.n_str (by decide +kernel) rfl) pa_nil))) (pe_one (pe_cmpR op_in_seq (pv 0) (pv 1) (by with_unfolding_all rfl)))))), ?_⟩
      try dsimp only [L2.cxOf, L2.Cx.nox, L2.Cx.wish]
      with_reducible refine Rd.ret (Rd.andV (Rd.cB (Rd.cons (Rd.var (by walk_at "vr") (Rd.cons (Rd.c (Rd.nil ?_)))))))
      refine ⟨_, _, _, _, _, rfl, (by walk_at "clsv"), (by walk_at "tyx"), (by walk_at "kit"), ?_⟩
      with_reducible refine Rd.bl (Rd.iteT (by first | with_unfolding_all rfl | walk_at "bT") (Rd.op (Rd.var (by walk_at "vr") (Rd.var (by walk_at "vr") ?_))))
      refine Rd.inT (.inr (by walk_at "hpt")) rfl (by walk_at "flt") ?_
      with_reducible refine Rd.bl (Rd.iteF (by walk_at "bF") (Rd.next (Rd.ifS (Rd.and (Rd.test (Rd.op (Rd.var (by walk_at "vr") (Rd.c (Rd.eqS (by walk_at "vr") (Rd.bl (Rd.iteF (by first | with_unfolding_all rfl | walk_at "bF") ?_)))))))))))
      with_reducible refine Rd.iteF rfl (Rd.next ?_)
      refine ⟨by walk_at "hpt", ?_⟩
      refine Rd.unrTCons ?_
      with_reducible refine Rd.name ?_
      dsimp only [List.set]
      with_reducible refine Rd.seq (Rd.ifS (Rd.not (Rd.tb (Rd.call (Rd.cons (Rd.var (by walk_at "vr") (Rd.cons (Rd.dget (Rd.var (by walk_at "vr") (Rd.var (by walk_at "vr") ?_))))))))))
      refine Rd.dget2 (by walk_at "hp") (by walk_at "dl") ?_
      with_reducible refine Rd.nil ?_
      refine in_is_part (fun cdv Ar outer s hr => ?_) rfl
      have hu := hu_of hr
      refine ⟨_, (pss_cons (ps_if (pt_cmpR op_eq (pv 0) pe_str (nomark _)) (pss_one ps_never) pss_nil)
            (pss_cons (ps_if (pt_cmpR op_eq (pv 0) pe_str (nomark _)) (pss_one (ps_ret (pe_call (ok_is_full T) (hr.mono (by decide)) (by rfl) T.m_is_full T.F_is_full.kp T.b_is_full .nil pass0 (pa_cons (pv 1) pa_nil)))) pss_nil)
            (pss_one ps_never))), ?_⟩
      try dsimp only [L2.cxOf, L2.Cx.nox, L2.Cx.wish]
      with_reducible refine Rd.seq (Rd.ifS (Rd.test (Rd.op (Rd.var (by walk_at "vr") (Rd.c (Rd.eqS (by walk_at "vr") (Rd.bl (Rd.iteF (by first | with_unfolding_all rfl | walk_at "bF") (Rd.next (Rd.seq (Rd.ifS ?_)))))))))))
      with_reducible refine Rd.test (Rd.op (Rd.var (by walk_at "vr") (Rd.c (Rd.eqS (by walk_at "vr") (Rd.bl (Rd.iteT (by first | with_unfolding_all rfl | walk_at "bT") (Rd.ret (Rd.call (Rd.cons (Rd.var (by walk_at "vr") (Rd.nil ?_)))))))))))
      refine in_is_full (fun cdv Ar outer s hr => ?_) rfl
      have hu := hu_of hr
      refine ⟨_, (pss_cons (ps_if (pt_not (pt_val (pe_callB (Rd.isi (K := K) rfl) (by rfl) T.n_isinstance (by decide +kernel) (pa_cons (pv 0) (pa_cons (pe_bltn (v := .ty "tuple") (u := .type "tuple") (by rfl) T.n_tuple (by decide +kernel) rfl) pa_nil))))) (pss_one ps_never) pss_nil)
            (pss_cons (ps_if (pt_cmpR op_eq (pe_callB call_len_seq (by rfl) T.n_len PySem.boot_len (pa_cons (pv 0) pa_nil)) pe_int (nomark _)) (pss_one (ps_ret (pe_call (ok_is_word_of T) (hr.mono (by decide)) (by rfl) T.m_is_word_of T.F_is_word_of.kp T.b_is_word_of .nil pass0 (pa_cons (pe_ix (Rd.ixTK rfl) (pv 0) pe_int (fun _ _ => rfl)) (pa_cons (pe_glob (v := .ref A.t_PLAIN_FULLS) rfl T.m_PLAIN_FULLS rfl) pa_nil))))) pss_nil)
            (pss_cons ps_never (pss_one ps_never)))), ?_⟩
      try dsimp only [L2.cxOf, L2.Cx.nox, L2.Cx.wish]
      with_reducible refine Rd.seq (Rd.ifS (Rd.not (Rd.tb (Rd.cB (Rd.cons (Rd.var (by walk_at "vr") (Rd.cons (Rd.c (Rd.nil ?_)))))))))
      refine ⟨_, _, _, _, _, rfl, (by walk_at "clsv"), (by walk_at "tyx"), (by walk_at "kit"), ?_⟩
      with_reducible refine Rd.bl (Rd.iteF (by first | with_unfolding_all rfl | walk_at "bF") (Rd.next (Rd.seq (Rd.ifS (Rd.test (Rd.op (Rd.cB (Rd.cons (Rd.var (by walk_at "vr") (Rd.nil (⟨_, _, rfl, (by walk_at "hpq"), ?_⟩)))))))))))
      with_reducible refine Rd.c (Rd.eqS (by walk_at "vr") (Rd.bl (Rd.iteT (by first | with_unfolding_all rfl | walk_at "bT") (Rd.ret (Rd.call (Rd.cons (Rd.op (Rd.var (by walk_at "vr") (Rd.c (Rd.ixT (by walk_at "hpt") (by walk_at "vr") (Rd.cons ?_)))))))))))
      with_reducible refine Rd.c (Rd.nil ?_)
      refine in_is_word_of (fun cdv Ar outer s hr => ?_) rfl
      have hu := hu_of hr
      refine ⟨_, (pss_one (ps_ret (pe_and (pe_callB (Rd.isi (K := K) rfl) (by rfl) T.n_isinstance (by decide +kernel) (pa_cons (pv 0) (pa_cons (pe_bltn (v := .ty "str") (u := .type "str") (by rfl) T.n_str (by decide +kernel) rfl) pa_nil))) (pe_one (pe_cmpR op_in_seq (pv 0) (pv 1) (by with_unfolding_all rfl)))))), ?_⟩
      try dsimp only [L2.cxOf, L2.Cx.nox, L2.Cx.wish]
      with_reducible refine Rd.ret (Rd.andV (Rd.cB (Rd.cons (Rd.var (by walk_at "vr") (Rd.cons (Rd.c (Rd.nil ?_)))))))
      refine ⟨_, _, _, _, _, rfl, (by walk_at "clsv"), (by walk_at "tyx"), (by walk_at "kit"), ?_⟩
      with_reducible refine Rd.bl (Rd.iteT (by first | with_unfolding_all rfl | walk_at "bT") (Rd.op (Rd.var (by walk_at "vr") (Rd.var (by walk_at "vr") ?_))))
      refine Rd.inT (.inr (by walk_at "hpt")) rfl (by walk_at "flt") ?_
      with_reducible refine Rd.bl (Rd.iteF (by walk_at "bF") (Rd.next (Rd.ifS (Rd.and (Rd.test (Rd.op (Rd.var (by walk_at "vr") (Rd.c (Rd.eqS (by walk_at "vr") (Rd.bl (Rd.iteF (by first | with_unfolding_all rfl | walk_at "bF") ?_)))))))))))
      with_reducible refine Rd.iteF rfl (Rd.next ?_)
      refine ⟨by walk_at "hpt", ?_⟩
      refine Rd.unrTCons ?_
      with_reducible refine Rd.name ?_
      dsimp only [List.set]
      with_reducible refine Rd.seq (Rd.ifS (Rd.not (Rd.tb (Rd.call (Rd.cons (Rd.var (by walk_at "vr") (Rd.cons (Rd.dget (Rd.var (by walk_at "vr") (Rd.var (by walk_at "vr") ?_))))))))))
      refine Rd.dget2 (by walk_at "hp") (by walk_at "dl") ?_
      with_reducible refine Rd.nil ?_
      refine in_is_part (fun cdv Ar outer s hr => ?_) rfl
      have hu := hu_of hr
      refine ⟨_, (pss_cons (ps_if (pt_cmpR op_eq (pv 0) pe_str (nomark _)) (pss_one ps_never) pss_nil)
            (pss_cons (ps_if (pt_cmpR op_eq (pv 0) pe_str (nomark _)) (pss_one ps_never) pss_nil)
            (pss_one (ps_ret (pe_call (ok_is_word_of T) (hr.mono (by decide)) (by rfl) T.m_is_word_of T.F_is_word_of.kp T.b_is_word_of .nil pass0 (pa_cons (pv 1) (pa_cons (pe_ix ix_kdict (pe_glob (v := .ref A.t_PART_WORDS) rfl T.m_PART_WORDS rfl) (pv 0) (fun _ _ => rfl)) pa_nil))))))), ?_⟩
      try dsimp only [L2.cxOf, L2.Cx.nox, L2.Cx.wish]
      with_reducible refine Rd.seq (Rd.ifS (Rd.test (Rd.op (Rd.var (by walk_at "vr") (Rd.c (Rd.eqS (by walk_at "vr") (Rd.bl (Rd.iteF (by first | with_unfolding_all rfl | walk_at "bF") (Rd.next (Rd.seq (Rd.ifS ?_)))))))))))
      with_reducible refine Rd.test (Rd.op (Rd.var (by walk_at "vr") (Rd.c (Rd.eqS (by walk_at "vr") (Rd.bl (Rd.iteF (by first | with_unfolding_all rfl | walk_at "bF") (Rd.next (Rd.ret (Rd.call (Rd.cons (Rd.var (by walk_at "vr") ?_)))))))))))
      with_reducible refine Rd.cons (Rd.op (Rd.c (Rd.var (by walk_at "vr") ?_)))
      refine ⟨_, _, _, rfl, rfl, T.d_PART_WORDS_when, ?_⟩
      with_reducible refine Rd.nil ?_
      refine in_is_word_of (fun cdv Ar outer s hr => ?_) rfl
      have hu := hu_of hr
      refine ⟨_, (pss_one (ps_ret (pe_and (pe_callB (Rd.isi (K := K) rfl) (by rfl) T.n_isinstance (by decide +kernel) (pa_cons (pv 0) (pa_cons (pe_bltn (v := .ty "str") (u := .type "str") (by rfl) T.n_str (by decide +kernel) rfl) pa_nil))) (pe_one (pe_cmpR op_in_seq (pv 0) (pv 1) (by with_unfolding_all rfl)))))), ?_⟩
      try dsimp only [L2.cxOf, L2.Cx.nox, L2.Cx.wish]
      with_reducible refine Rd.ret (Rd.andV (Rd.cB (Rd.cons (Rd.var (by walk_at "vr") (Rd.cons (Rd.c (Rd.nil ?_)))))))
      refine ⟨_, _, _, _, _, rfl, (by walk_at "clsv"), (by walk_at "tyx"), (by walk_at "kit"), ?_⟩
      with_reducible refine Rd.bl (Rd.iteT (by first | with_unfolding_all rfl | walk_at "bT") (Rd.op (Rd.var (by walk_at "vr") (Rd.var (by walk_at "vr") ?_))))
      refine Rd.inT (.inr (by walk_at "hpt")) rfl (by walk_at "flt") ?_
      with_reducible refine Rd.bl (Rd.iteF (by walk_at "bF") (Rd.next (Rd.ifS (Rd.and (Rd.test (Rd.op (Rd.var (by walk_at "vr") (Rd.c (Rd.eqS (by walk_at "vr") (Rd.bl (Rd.iteF (by first | with_unfolding_all rfl | walk_at "bF") ?_)))))))))))
      with_reducible refine Rd.iteF rfl (Rd.next ?_)
      refine ⟨by walk_at "hpt", ?_⟩
      refine Rd.unrTNil ?_
      with_reducible refine Rd.ret (Rd.c (Rd.name ?_))
      try dsimp only [Int.reduceToNat, List.set]
      with_reducible refine Rd.seq (Rd.ifS (Rd.test (Rd.op (Rd.var (by walk_at "vr") (Rd.c (⟨rfl, (Rd.bl (Rd.iteF (by first | with_unfolding_all rfl | walk_at "bF") (Rd.next (Rd.sfld (Rd.var (by walk_at "vr") ?_)))))⟩))))))
      with_reducible refine Rd.var (by walk_at "vr") (⟨_, _, _, _, rfl, (by walk_at "hp"), T.k_Scheme, T.n_Scheme_parts, (by walk_at "sfl"), ?_⟩)
      rw [fS_put]
      exact k _ _ (by walk_at "frm") (by assumption) L2.upd_same (by walk_at "hp")
    · have hw : vw = .int w := hw
      subst hw
      have w1 : 1 ≤ w ∧ w ≤ 100 := w1
      obtain ⟨pf, qf, dqf, rfl, hpf, hqf⟩ := hf
      obtain ⟨f1, f2, f3⟩ := w4
      have i4 : inV (.str kk) [.str "diff", .str "count"] = true := Rd.inW (ws := ["diff", "count"]) f1
      have i5 : inV (.str g) [.str "=", .str ">="] = true := Rd.inW (ws := ["=", ">="]) f2
      have i2 : (!inV (.str sl) [.str "rest", .str "off", .str "mask"]) = false := Rd.notF (Rd.inW (ws := ["rest", "off", "mask"]) w2)
      have i3 : (!inV (.str em) [.str "same", .str "count", .str "note"]) = false := Rd.notF (Rd.inW (ws := ["same", "count", "note"]) w3)
      have i6 : (!inV (.str wn) [.str "refuse", .str "drop", .str "over"]) = false := Rd.notF (Rd.inW (ws := ["refuse", "drop", "over"]) w5)
      have m1 : decide (V.str sl = V.str "mask") = true := decide_eq_true (by rw [hm])
      refine ⟨_, (pss_cons (ps_set (i := 6) sc_Schemeu__initu_.nd rfl (Or.inl rfl) (pe_disp (pps_cons pe_str (pv 1) (pps_cons pe_str (pv 2) (pps_cons pe_str (pv 3) (pps_cons pe_str (pv 4) (pps_cons pe_str (pv 5) pps_nil))))) rfl rfl (by simp) (by decide)))
      (pss_cons (ps_set (i := 7) sc_Schemeu__initu_.nd rfl (Or.inl rfl) (pe_call (ok_first_wrong T) (hr.mono (by decide)) (by rfl) T.m_first_wrong T.F_first_wrong.kp T.b_first_wrong .nil pass0 (pa_cons (pv 6) pa_nil)))
      (pss_cons (ps_if (pt_cmpR op_notN (pv 7) pe_non (nomark _)) (pss_one ps_never) pss_nil)
      (pss_one (ps_fld (pv 0) (pv 6) rfl))))), ?_⟩
      try dsimp only [L2.cxOf, L2.Cx.nox, L2.Cx.wish]
      try rw [st_Schemeu__initu_]
      with_reducible refine Rd.seq (Rd.asg ?_)
      refine Rd.disp5 (fun _ _ h => Rd.var (by walk_at "vr") h) (fun _ _ h => Rd.var (by walk_at "vr") h) (fun _ _ h => Rd.var (by walk_at "vr") h) (fun _ _ h => Rd.var (by walk_at "vr") h) (fun _ _ h => Rd.var (by walk_at "vr") h) ?_
      intro pd222_16 npd222_16
      rw [kvP_merge]
      with_reducible refine Rd.name ?_
      try dsimp only [Int.reduceToNat, List.set]
      with_reducible refine Rd.seq (Rd.asg (Rd.call (Rd.cons (Rd.var (by walk_at "vr") (Rd.nil ?_)))))
      refine in_first_wrong (fun cdv Ar outer s hr => ?_) rfl
      have hu := hu_of hr
      refine ⟨_, (pss_cons (ps_for PassesOwn.never rfl (pi_tup (pe_glob (v := .ref A.t_PART_NAMES) rfl T.m_PART_NAMES rfl)) (pg_name (i := 1) sc_first_wrong.nd rfl (Or.inl rfl)) (pss_cons (ps_if (pt_not (pt_val (pe_call (ok_is_part T) (hr.mono (by decide)) (by rfl) T.m_is_part T.F_is_part.kp T.b_is_part .nil pass0 (pa_cons (pv 1) (pa_cons (pe_dget hu (pv 0) (pv 1) (fun _ _ => rfl)) pa_nil))))) (pss_one ps_never) pss_nil) (pss_one (ps_if (PW.pt (pw_and (pt_cmpR op_eq (pv 1) pe_str (nomark _)) (pw_and (pt_cmpR op_eq (pe_dget hu (pv 0) pe_str (fun _ _ => rfl)) pe_str (nomark _)) (pw_and1 (pt_val (pe_callB (Rd.isi (K := K) rfl) (by rfl) T.n_isinstance (by decide +kernel) (pa_cons (pe_dget hu (pv 0) pe_str (fun _ _ => rfl)) (pa_cons (pe_glob (v := .ref A.c_Form) rfl T.m_Form rfl) pa_nil)))))))) (pss_one ps_never) pss_nil))))
            (pss_one (ps_ret pe_non))), ?_⟩
      try dsimp only [L2.cxOf, L2.Cx.nox, L2.Cx.wish]
      with_reducible refine Rd.seq (Rd.fr (Rd.it (Rd.c (⟨_, rfl, ?_⟩))))
      refine Rd.unrollT (by walk_at "hpt") ?_
      refine Rd.unrTCons ?_
      with_reducible refine Rd.name ?_
      dsimp only [List.set]
      with_reducible refine Rd.seq (Rd.ifS (Rd.not (Rd.tb (Rd.call (Rd.cons (Rd.var (by walk_at "vr") (Rd.cons (Rd.dget (Rd.var (by walk_at "vr") (Rd.var (by walk_at "vr") ?_))))))))))
      refine Rd.dget2 (by walk_at "hp") (by walk_at "dl") ?_
      with_reducible refine Rd.nil ?_
      refine in_is_part (fun cdv Ar outer s hr => ?_) rfl
      have hu := hu_of hr
      refine ⟨_, (pss_cons (ps_if (pt_cmpR op_eq (pv 0) pe_str (nomark _)) (pss_one (ps_ret (pe_call (ok_is_wrap T) (hr.mono (by decide)) (by rfl) T.m_is_wrap T.F_is_wrap.kp T.b_is_wrap .nil pass0 (pa_cons (pv 1) pa_nil)))) pss_nil)
            (pss_cons ps_never (pss_one ps_never))), ?_⟩
      try dsimp only [L2.cxOf, L2.Cx.nox, L2.Cx.wish]
      with_reducible refine Rd.seq (Rd.ifS (Rd.test (Rd.op (Rd.var (by walk_at "vr") (Rd.c (Rd.eqS (by walk_at "vr") (Rd.bl (Rd.iteT (by first | with_unfolding_all rfl | walk_at "bT") (Rd.ret (Rd.call (Rd.cons ?_)))))))))))
      with_reducible refine Rd.var (by walk_at "vr") (Rd.nil ?_)
      refine in_is_wrap (fun cdv Ar outer s hr => ?_) rfl
      have hu := hu_of hr
      refine ⟨_, (pss_one (ps_ret (pe_or (pe_call (ok_is_small_form T) (hr.mono (by decide)) (by rfl) T.m_is_small_form T.F_is_small_form.kp T.b_is_small_form .nil pass0 (pa_cons (pv 0) pa_nil)) (pe_one (pe_call (ok_is_whole_from T) (hr.mono (by decide)) (by rfl) T.m_is_whole_from T.F_is_whole_from.kp T.b_is_whole_from .nil pass0 (pa_cons (pv 0) (pa_cons pe_int (pa_cons (pe_glob (v := .int (100)) rfl T.m_GREATEST_WIDTH ⟨_, rfl⟩) pa_nil)))))))), ?_⟩
      try dsimp only [L2.cxOf, L2.Cx.nox, L2.Cx.wish]
      with_reducible refine Rd.ret (Rd.orV (Rd.call (Rd.cons (Rd.var (by walk_at "vr") (Rd.nil ?_)))))
      refine in_is_small_form (fun cdv Ar outer s hr => ?_) rfl
      have hu := hu_of hr
      refine ⟨_, (pss_cons (ps_if (pt_not (pt_val (pe_callB (Rd.isi (K := K) rfl) (by rfl) T.n_isinstance (by decide +kernel) (pa_cons (pv 0) (pa_cons (pe_glob (v := .ref A.c_Form) rfl T.m_Form rfl) pa_nil))))) (pss_one (ps_ret pe_bl)) pss_nil)
            (pss_one ps_never)), ?_⟩
      try dsimp only [L2.cxOf, L2.Cx.nox, L2.Cx.wish]
      with_reducible refine Rd.seq (Rd.ifS (Rd.not (Rd.tb (Rd.cB (Rd.cons (Rd.var (by walk_at "vr") (Rd.cons (Rd.c (Rd.nil ?_)))))))))
      refine ⟨_, _, _, _, _, rfl, (by walk_at "clsv"), (by walk_at "tyx"), (by walk_at "kit"), ?_⟩
      with_reducible refine Rd.bl (Rd.iteT (by first | with_unfolding_all rfl | walk_at "bT") (Rd.ret (Rd.c (Rd.bl (Rd.iteF (by first | with_unfolding_all rfl | walk_at "bF") (Rd.call (Rd.cons (Rd.var (by walk_at "vr") (Rd.cons (Rd.c (Rd.cons ?_)))))))))))
      with_reducible refine Rd.c (Rd.nil ?_)
      refine ⟨_, _, _, rfl, .inl ⟨_, rfl, (by walk_at "sc"), (by walk_at "sc"), ?_⟩⟩
      with_reducible refine Rd.bl (Rd.iteF (by walk_at "bF") (Rd.next (Rd.ifS (Rd.and (Rd.test (Rd.op (Rd.var (by walk_at "vr") (Rd.c (Rd.eqS (by walk_at "vr") (Rd.bl (Rd.iteF (by first | with_unfolding_all rfl | walk_at "bF") ?_)))))))))))
      with_reducible refine Rd.iteF rfl (Rd.next ?_)
      refine ⟨by walk_at "hpt", ?_⟩
      refine Rd.unrTCons ?_
      with_reducible refine Rd.name ?_
      dsimp only [List.set]
      with_reducible refine Rd.seq (Rd.ifS (Rd.not (Rd.tb (Rd.call (Rd.cons (Rd.var (by walk_at "vr") (Rd.cons (Rd.dget (Rd.var (by walk_at "vr") (Rd.var (by walk_at "vr") ?_))))))))))
      refine Rd.dget2 (by walk_at "hp") (by walk_at "dl") ?_
      with_reducible refine Rd.nil ?_
      refine in_is_part (fun cdv Ar outer s hr => ?_) rfl
      have hu := hu_of hr
      refine ⟨_, (pss_cons (ps_if (pt_cmpR op_eq (pv 0) pe_str (nomark _)) (pss_one ps_never) pss_nil)
            (pss_cons (ps_if (pt_cmpR op_eq (pv 0) pe_str (nomark _)) (pss_one ps_never) pss_nil)
            (pss_one (ps_ret (pe_call (ok_is_word_of T) (hr.mono (by decide)) (by rfl) T.m_is_word_of T.F_is_word_of.kp T.b_is_word_of .nil pass0 (pa_cons (pv 1) (pa_cons (pe_ix ix_kdict (pe_glob (v := .ref A.t_PART_WORDS) rfl T.m_PART_WORDS rfl) (pv 0) (fun _ _ => rfl)) pa_nil))))))), ?_⟩
      try dsimp only [L2.cxOf, L2.Cx.nox, L2.Cx.wish]
      with_reducible refine Rd.seq (Rd.ifS (Rd.test (Rd.op (Rd.var (by walk_at "vr") (Rd.c (Rd.eqS (by walk_at "vr") (Rd.bl (Rd.iteF (by first | with_unfolding_all rfl | walk_at "bF") (Rd.next (Rd.seq (Rd.ifS ?_)))))))))))
      with_reducible refine Rd.test (Rd.op (Rd.var (by walk_at "vr") (Rd.c (Rd.eqS (by walk_at "vr") (Rd.bl (Rd.iteF (by first | with_unfolding_all rfl | walk_at "bF") (Rd.next (Rd.ret (Rd.call (Rd.cons (Rd.var (by walk_at "vr") ?_)))))))))))
      with_reducible refine Rd.cons (Rd.op (Rd.c (Rd.var (by walk_at "vr") ?_)))
      refine ⟨_, _, _, rfl, rfl, T.d_PART_WORDS_slot, ?_⟩
      with_reducible refine Rd.nil ?_
      refine in_is_word_of (fun cdv Ar outer s hr => ?_) rfl
      have hu := hu_of hr
      refine ⟨_, (pss_one (ps_ret (pe_and (pe_callB (Rd.isi (K := K) rfl) (by rfl) T.n_isinstance (by decide +kernel) (pa_cons (pv 0) (pa_cons (pe_bltn (v := .ty "str") (u := .type "str") (by rfl) T.n_str (by decide +kernel) rfl) pa_nil))) (pe_one (pe_cmpR op_in_seq (pv 0) (pv 1) (by with_unfolding_all rfl)))))), ?_⟩
      try dsimp only [L2.cxOf, L2.Cx.nox, L2.Cx.wish]
      with_reducible refine Rd.ret (Rd.andV (Rd.cB (Rd.cons (Rd.var (by walk_at "vr") (Rd.cons (Rd.c (Rd.nil ?_)))))))
      refine ⟨_, _, _, _, _, rfl, (by walk_at "clsv"), (by walk_at "tyx"), (by walk_at "kit"), ?_⟩
      with_reducible refine Rd.bl (Rd.iteT (by first | with_unfolding_all rfl | walk_at "bT") (Rd.op (Rd.var (by walk_at "vr") (Rd.var (by walk_at "vr") ?_))))
      refine Rd.inT (.inr (by walk_at "hpt")) rfl (by walk_at "flt") ?_
      with_reducible refine Rd.bl (Rd.iteF (by walk_at "bF") (Rd.next (Rd.ifS (Rd.and (Rd.test (Rd.op (Rd.var (by walk_at "vr") (Rd.c (Rd.eqS (by walk_at "vr") (Rd.bl (Rd.iteT (by first | with_unfolding_all rfl | walk_at "bT") ?_)))))))))))
      with_reducible refine Rd.and (Rd.test (Rd.op (Rd.dget (Rd.var (by walk_at "vr") (Rd.c ?_)))))
      refine Rd.dget2 (by walk_at "hp") (by walk_at "dl") ?_
      with_reducible refine Rd.c (Rd.eqS (by walk_at "vr") (Rd.bl (Rd.iteT (by walk_at "bT") (Rd.tb (Rd.cB (Rd.cons (Rd.dget (Rd.var (by walk_at "vr") (Rd.c ?_)))))))))
      refine Rd.dget2 (by walk_at "hp") (by walk_at "dl") ?_
      with_reducible refine Rd.cons (Rd.c (Rd.nil ?_))
      refine ⟨_, _, _, _, _, rfl, (by walk_at "clsv"), (by walk_at "tyx"), (by walk_at "kit"), ?_⟩
      with_reducible refine Rd.bl (Rd.iteF (by first | with_unfolding_all rfl | walk_at "bF") (Rd.next ?_))
      refine ⟨by walk_at "hpt", ?_⟩
      refine Rd.unrTCons ?_
      with_reducible refine Rd.name ?_
      dsimp only [List.set]
      with_reducible refine Rd.seq (Rd.ifS (Rd.not (Rd.tb (Rd.call (Rd.cons (Rd.var (by walk_at "vr") (Rd.cons (Rd.dget (Rd.var (by walk_at "vr") (Rd.var (by walk_at "vr") ?_))))))))))
      refine Rd.dget2 (by walk_at "hp") (by walk_at "dl") ?_
      with_reducible refine Rd.nil ?_
      refine in_is_part (fun cdv Ar outer s hr => ?_) rfl
      have hu := hu_of hr
      refine ⟨_, (pss_cons (ps_if (pt_cmpR op_eq (pv 0) pe_str (nomark _)) (pss_one ps_never) pss_nil)
            (pss_cons (ps_if (pt_cmpR op_eq (pv 0) pe_str (nomark _)) (pss_one ps_never) pss_nil)
            (pss_one (ps_ret (pe_call (ok_is_word_of T) (hr.mono (by decide)) (by rfl) T.m_is_word_of T.F_is_word_of.kp T.b_is_word_of .nil pass0 (pa_cons (pv 1) (pa_cons (pe_ix ix_kdict (pe_glob (v := .ref A.t_PART_WORDS) rfl T.m_PART_WORDS rfl) (pv 0) (fun _ _ => rfl)) pa_nil))))))), ?_⟩
      try dsimp only [L2.cxOf, L2.Cx.nox, L2.Cx.wish]
      with_reducible refine Rd.seq (Rd.ifS (Rd.test (Rd.op (Rd.var (by walk_at "vr") (Rd.c (Rd.eqS (by walk_at "vr") (Rd.bl (Rd.iteF (by first | with_unfolding_all rfl | walk_at "bF") (Rd.next (Rd.seq (Rd.ifS ?_)))))))))))
      with_reducible refine Rd.test (Rd.op (Rd.var (by walk_at "vr") (Rd.c (Rd.eqS (by walk_at "vr") (Rd.bl (Rd.iteF (by first | with_unfolding_all rfl | walk_at "bF") (Rd.next (Rd.ret (Rd.call (Rd.cons (Rd.var (by walk_at "vr") ?_)))))))))))
      with_reducible refine Rd.cons (Rd.op (Rd.c (Rd.var (by walk_at "vr") ?_)))
      refine ⟨_, _, _, rfl, rfl, T.d_PART_WORDS_empty, ?_⟩
      with_reducible refine Rd.nil ?_
      refine in_is_word_of (fun cdv Ar outer s hr => ?_) rfl
      have hu := hu_of hr
      refine ⟨_, (pss_one (ps_ret (pe_and (pe_callB (Rd.isi (K := K) rfl) (by rfl) T.n_isinstance (by decide +kernel) (pa_cons (pv 0) (pa_cons (pe_bltn (v := .ty "str") (u := .type "str") (by rfl) T.n_str (by decide +kernel) rfl) pa_nil))) (pe_one (pe_cmpR op_in_seq (pv 0) (pv 1) (by with_unfolding_all rfl)))))), ?_⟩
      try dsimp only [L2.cxOf, L2.Cx.nox, L2.Cx.wish]
      with_reducible refine Rd.ret (Rd.andV (Rd.cB (Rd.cons (Rd.var (by walk_at "vr") (Rd.cons (Rd.c (Rd.nil ?_)))))))
      refine ⟨_, _, _, _, _, rfl, (by walk_at "clsv"), (by walk_at "tyx"), (by walk_at "kit"), ?_⟩
      with_reducible refine Rd.bl (Rd.iteT (by first | with_unfolding_all rfl | walk_at "bT") (Rd.op (Rd.var (by walk_at "vr") (Rd.var (by walk_at "vr") ?_))))
      refine Rd.inT (.inr (by walk_at "hpt")) rfl (by walk_at "flt") ?_
      with_reducible refine Rd.bl (Rd.iteF (by walk_at "bF") (Rd.next (Rd.ifS (Rd.and (Rd.test (Rd.op (Rd.var (by walk_at "vr") (Rd.c (Rd.eqS (by walk_at "vr") (Rd.bl (Rd.iteF (by first | with_unfolding_all rfl | walk_at "bF") ?_)))))))))))
      with_reducible refine Rd.iteF rfl (Rd.next ?_)
      refine ⟨by walk_at "hpt", ?_⟩
      refine Rd.unrTCons ?_
      with_reducible refine Rd.name ?_
      dsimp only [List.set]
      with_reducible refine Rd.seq (Rd.ifS (Rd.not (Rd.tb (Rd.call (Rd.cons (Rd.var (by walk_at "vr") (Rd.cons (Rd.dget (Rd.var (by walk_at "vr") (Rd.var (by walk_at "vr") ?_))))))))))
      refine Rd.dget2 (by walk_at "hp") (by walk_at "dl") ?_
      with_reducible refine Rd.nil ?_
      refine in_is_part (fun cdv Ar outer s hr => ?_) rfl
      have hu := hu_of hr
      refine ⟨_, (pss_cons (ps_if (pt_cmpR op_eq (pv 0) pe_str (nomark _)) (pss_one ps_never) pss_nil)
            (pss_cons (ps_if (pt_cmpR op_eq (pv 0) pe_str (nomark _)) (pss_one (ps_ret (pe_call (ok_is_full T) (hr.mono (by decide)) (by rfl) T.m_is_full T.F_is_full.kp T.b_is_full .nil pass0 (pa_cons (pv 1) pa_nil)))) pss_nil)
            (pss_one ps_never))), ?_⟩
      try dsimp only [L2.cxOf, L2.Cx.nox, L2.Cx.wish]
      with_reducible refine Rd.seq (Rd.ifS (Rd.test (Rd.op (Rd.var (by walk_at "vr") (Rd.c (Rd.eqS (by walk_at "vr") (Rd.bl (Rd.iteF (by first | with_unfolding_all rfl | walk_at "bF") (Rd.next (Rd.seq (Rd.ifS ?_)))))))))))
      with_reducible refine Rd.test (Rd.op (Rd.var (by walk_at "vr") (Rd.c (Rd.eqS (by walk_at "vr") (Rd.bl (Rd.iteT (by first | with_unfolding_all rfl | walk_at "bT") (Rd.ret (Rd.call (Rd.cons (Rd.var (by walk_at "vr") (Rd.nil ?_)))))))))))
      refine in_is_full (fun cdv Ar outer s hr => ?_) rfl
      have hu := hu_of hr
      refine ⟨_, (pss_cons (ps_if (pt_not (pt_val (pe_callB (Rd.isi (K := K) rfl) (by rfl) T.n_isinstance (by decide +kernel) (pa_cons (pv 0) (pa_cons (pe_bltn (v := .ty "tuple") (u := .type "tuple") (by rfl) T.n_tuple (by decide +kernel) rfl) pa_nil))))) (pss_one ps_never) pss_nil)
            (pss_cons (ps_if (pt_cmpR op_eq (pe_callB call_len_seq (by rfl) T.n_len PySem.boot_len (pa_cons (pv 0) pa_nil)) pe_int (nomark _)) (pss_one ps_never) pss_nil)
            (pss_cons (ps_if (pt_cmpR op_ne (pe_callB call_len_seq (by rfl) T.n_len PySem.boot_len (pa_cons (pv 0) pa_nil)) pe_int (nomark _)) (pss_one ps_never) pss_nil)
            (pss_one (ps_ret (pe_and (pe_call (ok_is_word_of T) (hr.mono (by decide)) (by rfl) T.m_is_word_of T.F_is_word_of.kp T.b_is_word_of .nil pass0 (pa_cons (pe_ix (Rd.ixTK rfl) (pv 0) pe_int (fun _ _ => rfl)) (pa_cons (pe_glob (v := .ref A.t_MEASURES) rfl T.m_MEASURES rfl) pa_nil))) (pe_and (pe_call (ok_is_word_of T) (hr.mono (by decide)) (by rfl) T.m_is_word_of T.F_is_word_of.kp T.b_is_word_of .nil pass0 (pa_cons (pe_ix (Rd.ixTK rfl) (pv 0) pe_int (fun _ _ => rfl)) (pa_cons (pe_glob (v := .ref A.t_SIGNS) rfl T.m_SIGNS rfl) pa_nil))) (pe_one (pe_call (ok_is_small_form T) (hr.mono (by decide)) (by rfl) T.m_is_small_form T.F_is_small_form.kp T.b_is_small_form .nil pass0 (pa_cons (pe_ix (Rd.ixTK rfl) (pv 0) pe_int (fun _ _ => rfl)) pa_nil)))))))))), ?_⟩
      try dsimp only [L2.cxOf, L2.Cx.nox, L2.Cx.wish]
      with_reducible refine Rd.seq (Rd.ifS (Rd.not (Rd.tb (Rd.cB (Rd.cons (Rd.var (by walk_at "vr") (Rd.cons (Rd.c (Rd.nil ?_)))))))))
      refine ⟨_, _, _, _, _, rfl, (by walk_at "clsv"), (by walk_at "tyx"), (by walk_at "kit"), ?_⟩
      with_reducible refine Rd.bl (Rd.iteF (by first | with_unfolding_all rfl | walk_at "bF") (Rd.next (Rd.seq (Rd.ifS (Rd.test (Rd.op (Rd.cB (Rd.cons (Rd.var (by walk_at "vr") (Rd.nil (⟨_, _, rfl, (by walk_at "hpq"), ?_⟩)))))))))))
      with_reducible refine Rd.c (Rd.eqS (by walk_at "vr") (Rd.bl (Rd.iteF (by first | with_unfolding_all rfl | walk_at "bF") (Rd.next (Rd.seq (Rd.ifS (Rd.test (Rd.op (Rd.cB (Rd.cons (Rd.var (by walk_at "vr") ?_)))))))))))
      with_reducible refine Rd.nil (⟨_, _, rfl, (by walk_at "hpq"), (Rd.c (Rd.neS (by walk_at "vr") (Rd.bl (Rd.iteF (by first | with_unfolding_all rfl | walk_at "bF") (Rd.next (Rd.ret (Rd.andV (Rd.call (Rd.cons (Rd.op ?_))))))))))⟩)
      with_reducible refine Rd.var (by walk_at "vr") (Rd.c (Rd.ixT (by walk_at "hpt") (by walk_at "vr") (Rd.cons (Rd.c (Rd.nil ?_)))))
      refine in_is_word_of (fun cdv Ar outer s hr => ?_) rfl
      have hu := hu_of hr
      refine ⟨_, (pss_one (ps_ret (pe_and (pe_callB (Rd.isi (K := K) rfl) (by rfl) T.n_isinstance (by decide +kernel) (pa_cons (pv 0) (pa_cons (pe_bltn (v := .ty "str") (u := .type "str") (by rfl) T.n_str (by decide +kernel) rfl) pa_nil))) (pe_one (pe_cmpR op_in_seq (pv 0) (pv 1) (by with_unfolding_all rfl)))))), ?_⟩
      try dsimp only [L2.cxOf, L2.Cx.nox, L2.Cx.wish]
      with_reducible refine Rd.ret (Rd.andV (Rd.cB (Rd.cons (Rd.var (by walk_at "vr") (Rd.cons (Rd.c (Rd.nil ?_)))))))
      refine ⟨_, _, _, _, _, rfl, (by walk_at "clsv"), (by walk_at "tyx"), (by walk_at "kit"), ?_⟩
      with_reducible refine Rd.bl (Rd.iteT (by first | with_unfolding_all rfl | walk_at "bT") (Rd.op (Rd.var (by walk_at "vr") (Rd.var (by walk_at "vr") ?_))))
      refine Rd.inT (.inr (by walk_at "hpt")) rfl (by walk_at "flt") ?_
      with_reducible refine Rd.bl (Rd.iteT (by walk_at "bT") (Rd.andV (Rd.call (Rd.cons (Rd.op (Rd.var (by walk_at "vr") (Rd.c (Rd.ixT (by walk_at "hpt") (by walk_at "vr") (Rd.cons (Rd.c (Rd.nil ?_)))))))))))
      refine in_is_word_of (fun cdv Ar outer s hr => ?_) rfl
      have hu := hu_of hr
      refine ⟨_, (pss_one (ps_ret (pe_and (pe_callB (Rd.isi (K := K) rfl) (by rfl) T.n_isinstance (by decide +kernel) (pa_cons (pv 0) (pa_cons (pe_bltn (v := .ty "str") (u := .type "str") (by rfl) T.n_str (by decide +kernel) rfl) pa_nil))) (pe_one (pe_cmpR op_in_seq (pv 0) (pv 1) (by with_unfolding_all rfl)))))), ?_⟩
      try dsimp only [L2.cxOf, L2.Cx.nox, L2.Cx.wish]
      with_reducible refine Rd.ret (Rd.andV (Rd.cB (Rd.cons (Rd.var (by walk_at "vr") (Rd.cons (Rd.c (Rd.nil ?_)))))))
      refine ⟨_, _, _, _, _, rfl, (by walk_at "clsv"), (by walk_at "tyx"), (by walk_at "kit"), ?_⟩
      with_reducible refine Rd.bl (Rd.iteT (by first | with_unfolding_all rfl | walk_at "bT") (Rd.op (Rd.var (by walk_at "vr") (Rd.var (by walk_at "vr") ?_))))
      refine Rd.inT (.inr (by walk_at "hpt")) rfl (by walk_at "flt") ?_
      with_reducible refine Rd.bl (Rd.iteT (by walk_at "bT") (Rd.call (Rd.cons (Rd.op (Rd.var (by walk_at "vr") (Rd.c (Rd.ixT (by walk_at "hpt") (by walk_at "vr") (Rd.nil ?_))))))))
      refine in_is_small_form (fun cdv Ar outer s hr => ?_) rfl
      have hu := hu_of hr
      refine ⟨_, (pss_cons (ps_if (pt_not (pt_val (pe_callB (Rd.isi (K := K) rfl) (by rfl) T.n_isinstance (by decide +kernel) (pa_cons (pv 0) (pa_cons (pe_glob (v := .ref A.c_Form) rfl T.m_Form rfl) pa_nil))))) (pss_one ps_never) pss_nil)
            (pss_one (ps_ret (pe_and (pe_chain op_le op_le pe_int (pe_fld (pv 0) rfl) (pe_glob (v := .int (4)) rfl T.m_GREATEST_SLOPE ⟨_, rfl⟩)) (pe_one (pe_chain op_le op_le (pe_un un_neg (pe_glob (v := .int (20)) rfl T.m_GREATEST_BASE ⟨_, rfl⟩)) (pe_fld (pv 0) rfl) (pe_glob (v := .int (20)) rfl T.m_GREATEST_BASE ⟨_, rfl⟩))))))), ?_⟩
      try dsimp only [L2.cxOf, L2.Cx.nox, L2.Cx.wish]
      with_reducible refine Rd.seq (Rd.ifS (Rd.not (Rd.tb (Rd.cB (Rd.cons (Rd.var (by walk_at "vr") (Rd.cons (Rd.c (Rd.nil ?_)))))))))
      refine ⟨_, _, _, _, _, rfl, (by walk_at "clsv"), (by walk_at "tyx"), (by walk_at "kit"), ?_⟩
      with_reducible refine Rd.bl (Rd.iteF (by first | with_unfolding_all rfl | walk_at "bF") (Rd.next (Rd.ret (Rd.andV (Rd.chain (Rd.c (Rd.fld (Rd.var (by walk_at "vr") (⟨_, _, _, _, _, rfl, (by walk_at "hp"), T.k_Form, T.n_Form_slope, (by walk_at "lk"), (Rd.i0 (Rd.bl ?_))⟩)))))))))
      with_reducible refine Rd.iteT (by walk_at "bT") (Rd.c (Rd.i0 (Rd.bl (Rd.iteT (by walk_at "bT") (Rd.chain (Rd.un (Rd.c (Rd.iU (Rd.fld (Rd.var (by walk_at "vr") (⟨_, _, _, _, _, rfl, (by walk_at "hp"), T.k_Form, T.n_Form_base, (by walk_at "lk"), ?_⟩)))))))))))
      with_reducible refine Rd.i0 (Rd.bl (Rd.iteT (by walk_at "bT") (Rd.c (Rd.i0 (Rd.bl (Rd.iteF (by walk_at "bF") (Rd.next (Rd.ifS (Rd.and (Rd.test (Rd.op ?_)))))))))))
      with_reducible refine Rd.var (by walk_at "vr") (Rd.c (Rd.eqS (by walk_at "vr") (Rd.bl (Rd.iteF (by first | with_unfolding_all rfl | walk_at "bF") (Rd.iteF rfl (Rd.next ?_))))))
      refine ⟨by walk_at "hpt", ?_⟩
      refine Rd.unrTCons ?_
      with_reducible refine Rd.name ?_
      dsimp only [List.set]
      with_reducible refine Rd.seq (Rd.ifS (Rd.not (Rd.tb (Rd.call (Rd.cons (Rd.var (by walk_at "vr") (Rd.cons (Rd.dget (Rd.var (by walk_at "vr") (Rd.var (by walk_at "vr") ?_))))))))))
      refine Rd.dget2 (by walk_at "hp") (by walk_at "dl") ?_
      with_reducible refine Rd.nil ?_
      refine in_is_part (fun cdv Ar outer s hr => ?_) rfl
      have hu := hu_of hr
      refine ⟨_, (pss_cons (ps_if (pt_cmpR op_eq (pv 0) pe_str (nomark _)) (pss_one ps_never) pss_nil)
            (pss_cons (ps_if (pt_cmpR op_eq (pv 0) pe_str (nomark _)) (pss_one ps_never) pss_nil)
            (pss_one (ps_ret (pe_call (ok_is_word_of T) (hr.mono (by decide)) (by rfl) T.m_is_word_of T.F_is_word_of.kp T.b_is_word_of .nil pass0 (pa_cons (pv 1) (pa_cons (pe_ix ix_kdict (pe_glob (v := .ref A.t_PART_WORDS) rfl T.m_PART_WORDS rfl) (pv 0) (fun _ _ => rfl)) pa_nil))))))), ?_⟩
      try dsimp only [L2.cxOf, L2.Cx.nox, L2.Cx.wish]
      with_reducible refine Rd.seq (Rd.ifS (Rd.test (Rd.op (Rd.var (by walk_at "vr") (Rd.c (Rd.eqS (by walk_at "vr") (Rd.bl (Rd.iteF (by first | with_unfolding_all rfl | walk_at "bF") (Rd.next (Rd.seq (Rd.ifS ?_)))))))))))
      with_reducible refine Rd.test (Rd.op (Rd.var (by walk_at "vr") (Rd.c (Rd.eqS (by walk_at "vr") (Rd.bl (Rd.iteF (by first | with_unfolding_all rfl | walk_at "bF") (Rd.next (Rd.ret (Rd.call (Rd.cons (Rd.var (by walk_at "vr") ?_)))))))))))
      with_reducible refine Rd.cons (Rd.op (Rd.c (Rd.var (by walk_at "vr") ?_)))
      refine ⟨_, _, _, rfl, rfl, T.d_PART_WORDS_when, ?_⟩
      with_reducible refine Rd.nil ?_
      refine in_is_word_of (fun cdv Ar outer s hr => ?_) rfl
      have hu := hu_of hr
      refine ⟨_, (pss_one (ps_ret (pe_and (pe_callB (Rd.isi (K := K) rfl) (by rfl) T.n_isinstance (by decide +kernel) (pa_cons (pv 0) (pa_cons (pe_bltn (v := .ty "str") (u := .type "str") (by rfl) T.n_str (by decide +kernel) rfl) pa_nil))) (pe_one (pe_cmpR op_in_seq (pv 0) (pv 1) (by with_unfolding_all rfl)))))), ?_⟩
      try dsimp only [L2.cxOf, L2.Cx.nox, L2.Cx.wish]
      with_reducible refine Rd.ret (Rd.andV (Rd.cB (Rd.cons (Rd.var (by walk_at "vr") (Rd.cons (Rd.c (Rd.nil ?_)))))))
      refine ⟨_, _, _, _, _, rfl, (by walk_at "clsv"), (by walk_at "tyx"), (by walk_at "kit"), ?_⟩
      with_reducible refine Rd.bl (Rd.iteT (by first | with_unfolding_all rfl | walk_at "bT") (Rd.op (Rd.var (by walk_at "vr") (Rd.var (by walk_at "vr") ?_))))
      refine Rd.inT (.inr (by walk_at "hpt")) rfl (by walk_at "flt") ?_
      with_reducible refine Rd.bl (Rd.iteF (by walk_at "bF") (Rd.next (Rd.ifS (Rd.and (Rd.test (Rd.op (Rd.var (by walk_at "vr") (Rd.c (Rd.eqS (by walk_at "vr") (Rd.bl (Rd.iteF (by first | with_unfolding_all rfl | walk_at "bF") ?_)))))))))))
      with_reducible refine Rd.iteF rfl (Rd.next ?_)
      refine ⟨by walk_at "hpt", ?_⟩
      refine Rd.unrTNil ?_
      with_reducible refine Rd.ret (Rd.c (Rd.name ?_))
      try dsimp only [Int.reduceToNat, List.set]
      with_reducible refine Rd.seq (Rd.ifS (Rd.test (Rd.op (Rd.var (by walk_at "vr") (Rd.c (⟨rfl, (Rd.bl (Rd.iteF (by first | with_unfolding_all rfl | walk_at "bF") (Rd.next (Rd.sfld (Rd.var (by walk_at "vr") ?_)))))⟩))))))
      with_reducible refine Rd.var (by walk_at "vr") (⟨_, _, _, _, rfl, (by walk_at "hp"), T.k_Scheme, T.n_Scheme_parts, (by walk_at "sfl"), ?_⟩)
      rw [fS_put]
      exact k _ _ (by walk_at "frm") (by assumption) L2.upd_same (by walk_at "hp")
    · have hw : vw = .int w := hw
      subst hw
      have w1 : 1 ≤ w ∧ w ≤ 100 := w1
      obtain ⟨pf, qf, dqf, rfl, hpf, hqf⟩ := hf
      obtain ⟨f1, f2, f3⟩ := w4
      have i4 : inV (.str kk) [.str "diff", .str "count"] = true := Rd.inW (ws := ["diff", "count"]) f1
      have i5 : inV (.str g) [.str "=", .str ">="] = true := Rd.inW (ws := ["=", ">="]) f2
      have i2 : (!inV (.str sl) [.str "rest", .str "off", .str "mask"]) = false := Rd.notF (Rd.inW (ws := ["rest", "off", "mask"]) w2)
      have i3 : (!inV (.str em) [.str "same", .str "count", .str "note"]) = false := Rd.notF (Rd.inW (ws := ["same", "count", "note"]) w3)
      have i6 : (!inV (.str wn) [.str "refuse", .str "drop", .str "over"]) = false := Rd.notF (Rd.inW (ws := ["refuse", "drop", "over"]) w5)
      have m1 : decide (V.str sl = V.str "mask") = false := nmask hm
      refine ⟨_, (pss_cons (ps_set (i := 6) sc_Schemeu__initu_.nd rfl (Or.inl rfl) (pe_disp (pps_cons pe_str (pv 1) (pps_cons pe_str (pv 2) (pps_cons pe_str (pv 3) (pps_cons pe_str (pv 4) (pps_cons pe_str (pv 5) pps_nil))))) rfl rfl (by simp) (by decide)))
      (pss_cons (ps_set (i := 7) sc_Schemeu__initu_.nd rfl (Or.inl rfl) (pe_call (ok_first_wrong T) (hr.mono (by decide)) (by rfl) T.m_first_wrong T.F_first_wrong.kp T.b_first_wrong .nil pass0 (pa_cons (pv 6) pa_nil)))
      (pss_cons (ps_if (pt_cmpR op_notN (pv 7) pe_non (nomark _)) (pss_one ps_never) pss_nil)
      (pss_one (ps_fld (pv 0) (pv 6) rfl))))), ?_⟩
      try dsimp only [L2.cxOf, L2.Cx.nox, L2.Cx.wish]
      try rw [st_Schemeu__initu_]
      with_reducible refine Rd.seq (Rd.asg ?_)
      refine Rd.disp5 (fun _ _ h => Rd.var (by walk_at "vr") h) (fun _ _ h => Rd.var (by walk_at "vr") h) (fun _ _ h => Rd.var (by walk_at "vr") h) (fun _ _ h => Rd.var (by walk_at "vr") h) (fun _ _ h => Rd.var (by walk_at "vr") h) ?_
      intro pd222_16 npd222_16
      rw [kvP_merge]
      with_reducible refine Rd.name ?_
      try dsimp only [Int.reduceToNat, List.set]
      with_reducible refine Rd.seq (Rd.asg (Rd.call (Rd.cons (Rd.var (by walk_at "vr") (Rd.nil ?_)))))
      refine in_first_wrong (fun cdv Ar outer s hr => ?_) rfl
      have hu := hu_of hr
      refine ⟨_, (pss_cons (ps_for PassesOwn.never rfl (pi_tup (pe_glob (v := .ref A.t_PART_NAMES) rfl T.m_PART_NAMES rfl)) (pg_name (i := 1) sc_first_wrong.nd rfl (Or.inl rfl)) (pss_cons (ps_if (pt_not (pt_val (pe_call (ok_is_part T) (hr.mono (by decide)) (by rfl) T.m_is_part T.F_is_part.kp T.b_is_part .nil pass0 (pa_cons (pv 1) (pa_cons (pe_dget hu (pv 0) (pv 1) (fun _ _ => rfl)) pa_nil))))) (pss_one ps_never) pss_nil) (pss_one (ps_if (PW.pt (pw_and (pt_cmpR op_eq (pv 1) pe_str (nomark _)) (pw_and (pt_cmpR op_eq (pe_dget hu (pv 0) pe_str (fun _ _ => rfl)) pe_str (nomark _)) (pw_and1 Rd.ptN)))) (pss_one ps_never) pss_nil))))
            (pss_one (ps_ret pe_non))), ?_⟩
      try dsimp only [L2.cxOf, L2.Cx.nox, L2.Cx.wish]
      with_reducible refine Rd.seq (Rd.fr (Rd.it (Rd.c (⟨_, rfl, ?_⟩))))
      refine Rd.unrollT (by walk_at "hpt") ?_
      refine Rd.unrTCons ?_
      with_reducible refine Rd.name ?_
      dsimp only [List.set]
      with_reducible refine Rd.seq (Rd.ifS (Rd.not (Rd.tb (Rd.call (Rd.cons (Rd.var (by walk_at "vr") (Rd.cons (Rd.dget (Rd.var (by walk_at "vr") (Rd.var (by walk_at "vr") ?_))))))))))
      refine Rd.dget2 (by walk_at "hp") (by walk_at "dl") ?_
      with_reducible refine Rd.nil ?_
      refine in_is_part (fun cdv Ar outer s hr => ?_) rfl
      have hu := hu_of hr
      refine ⟨_, (pss_cons (ps_if (pt_cmpR op_eq (pv 0) pe_str (nomark _)) (pss_one (ps_ret (pe_call (ok_is_wrap T) (hr.mono (by decide)) (by rfl) T.m_is_wrap T.F_is_wrap.kp T.b_is_wrap .nil pass0 (pa_cons (pv 1) pa_nil)))) pss_nil)
            (pss_cons ps_never (pss_one ps_never))), ?_⟩
      try dsimp only [L2.cxOf, L2.Cx.nox, L2.Cx.wish]
      with_reducible refine Rd.seq (Rd.ifS (Rd.test (Rd.op (Rd.var (by walk_at "vr") (Rd.c (Rd.eqS (by walk_at "vr") (Rd.bl (Rd.iteT (by first | with_unfolding_all rfl | walk_at "bT") (Rd.ret (Rd.call (Rd.cons ?_)))))))))))
      with_reducible refine Rd.var (by walk_at "vr") (Rd.nil ?_)
      refine in_is_wrap (fun cdv Ar outer s hr => ?_) rfl
      have hu := hu_of hr
      refine ⟨_, (pss_one (ps_ret (pe_or (pe_call (ok_is_small_form T) (hr.mono (by decide)) (by rfl) T.m_is_small_form T.F_is_small_form.kp T.b_is_small_form .nil pass0 (pa_cons (pv 0) pa_nil)) (pe_one (pe_call (ok_is_whole_from T) (hr.mono (by decide)) (by rfl) T.m_is_whole_from T.F_is_whole_from.kp T.b_is_whole_from .nil pass0 (pa_cons (pv 0) (pa_cons pe_int (pa_cons (pe_glob (v := .int (100)) rfl T.m_GREATEST_WIDTH ⟨_, rfl⟩) pa_nil)))))))), ?_⟩
      try dsimp only [L2.cxOf, L2.Cx.nox, L2.Cx.wish]
      with_reducible refine Rd.ret (Rd.orV (Rd.call (Rd.cons (Rd.var (by walk_at "vr") (Rd.nil ?_)))))
      refine in_is_small_form (fun cdv Ar outer s hr => ?_) rfl
      have hu := hu_of hr
      refine ⟨_, (pss_cons (ps_if (pt_not (pt_val (pe_callB (Rd.isi (K := K) rfl) (by rfl) T.n_isinstance (by decide +kernel) (pa_cons (pv 0) (pa_cons (pe_glob (v := .ref A.c_Form) rfl T.m_Form rfl) pa_nil))))) (pss_one (ps_ret pe_bl)) pss_nil)
            (pss_one ps_never)), ?_⟩
      try dsimp only [L2.cxOf, L2.Cx.nox, L2.Cx.wish]
      with_reducible refine Rd.seq (Rd.ifS (Rd.not (Rd.tb (Rd.cB (Rd.cons (Rd.var (by walk_at "vr") (Rd.cons (Rd.c (Rd.nil ?_)))))))))
      refine ⟨_, _, _, _, _, rfl, (by walk_at "clsv"), (by walk_at "tyx"), (by walk_at "kit"), ?_⟩
      with_reducible refine Rd.bl (Rd.iteT (by first | with_unfolding_all rfl | walk_at "bT") (Rd.ret (Rd.c (Rd.bl (Rd.iteF (by first | with_unfolding_all rfl | walk_at "bF") (Rd.call (Rd.cons (Rd.var (by walk_at "vr") (Rd.cons (Rd.c (Rd.cons ?_)))))))))))
      with_reducible refine Rd.c (Rd.nil ?_)
      refine ⟨_, _, _, rfl, .inl ⟨_, rfl, (by walk_at "sc"), (by walk_at "sc"), ?_⟩⟩
      with_reducible refine Rd.bl (Rd.iteF (by walk_at "bF") (Rd.next (Rd.ifS (Rd.and (Rd.test (Rd.op (Rd.var (by walk_at "vr") (Rd.c (Rd.eqS (by walk_at "vr") (Rd.bl (Rd.iteF (by first | with_unfolding_all rfl | walk_at "bF") ?_)))))))))))
      with_reducible refine Rd.iteF rfl (Rd.next ?_)
      refine ⟨by walk_at "hpt", ?_⟩
      refine Rd.unrTCons ?_
      with_reducible refine Rd.name ?_
      dsimp only [List.set]
      with_reducible refine Rd.seq (Rd.ifS (Rd.not (Rd.tb (Rd.call (Rd.cons (Rd.var (by walk_at "vr") (Rd.cons (Rd.dget (Rd.var (by walk_at "vr") (Rd.var (by walk_at "vr") ?_))))))))))
      refine Rd.dget2 (by walk_at "hp") (by walk_at "dl") ?_
      with_reducible refine Rd.nil ?_
      refine in_is_part (fun cdv Ar outer s hr => ?_) rfl
      have hu := hu_of hr
      refine ⟨_, (pss_cons (ps_if (pt_cmpR op_eq (pv 0) pe_str (nomark _)) (pss_one ps_never) pss_nil)
            (pss_cons (ps_if (pt_cmpR op_eq (pv 0) pe_str (nomark _)) (pss_one ps_never) pss_nil)
            (pss_one (ps_ret (pe_call (ok_is_word_of T) (hr.mono (by decide)) (by rfl) T.m_is_word_of T.F_is_word_of.kp T.b_is_word_of .nil pass0 (pa_cons (pv 1) (pa_cons (pe_ix ix_kdict (pe_glob (v := .ref A.t_PART_WORDS) rfl T.m_PART_WORDS rfl) (pv 0) (fun _ _ => rfl)) pa_nil))))))), ?_⟩
      try dsimp only [L2.cxOf, L2.Cx.nox, L2.Cx.wish]
      with_reducible refine Rd.seq (Rd.ifS (Rd.test (Rd.op (Rd.var (by walk_at "vr") (Rd.c (Rd.eqS (by walk_at "vr") (Rd.bl (Rd.iteF (by first | with_unfolding_all rfl | walk_at "bF") (Rd.next (Rd.seq (Rd.ifS ?_)))))))))))
      with_reducible refine Rd.test (Rd.op (Rd.var (by walk_at "vr") (Rd.c (Rd.eqS (by walk_at "vr") (Rd.bl (Rd.iteF (by first | with_unfolding_all rfl | walk_at "bF") (Rd.next (Rd.ret (Rd.call (Rd.cons (Rd.var (by walk_at "vr") ?_)))))))))))
      with_reducible refine Rd.cons (Rd.op (Rd.c (Rd.var (by walk_at "vr") ?_)))
      refine ⟨_, _, _, rfl, rfl, T.d_PART_WORDS_slot, ?_⟩
      with_reducible refine Rd.nil ?_
      refine in_is_word_of (fun cdv Ar outer s hr => ?_) rfl
      have hu := hu_of hr
      refine ⟨_, (pss_one (ps_ret (pe_and (pe_callB (Rd.isi (K := K) rfl) (by rfl) T.n_isinstance (by decide +kernel) (pa_cons (pv 0) (pa_cons (pe_bltn (v := .ty "str") (u := .type "str") (by rfl) T.n_str (by decide +kernel) rfl) pa_nil))) (pe_one (pe_cmpR op_in_seq (pv 0) (pv 1) (by with_unfolding_all rfl)))))), ?_⟩
      try dsimp only [L2.cxOf, L2.Cx.nox, L2.Cx.wish]
      with_reducible refine Rd.ret (Rd.andV (Rd.cB (Rd.cons (Rd.var (by walk_at "vr") (Rd.cons (Rd.c (Rd.nil ?_)))))))
      refine ⟨_, _, _, _, _, rfl, (by walk_at "clsv"), (by walk_at "tyx"), (by walk_at "kit"), ?_⟩
      with_reducible refine Rd.bl (Rd.iteT (by first | with_unfolding_all rfl | walk_at "bT") (Rd.op (Rd.var (by walk_at "vr") (Rd.var (by walk_at "vr") ?_))))
      refine Rd.inT (.inr (by walk_at "hpt")) rfl (by walk_at "flt") ?_
      with_reducible refine Rd.bl (Rd.iteF (by walk_at "bF") (Rd.next (Rd.ifS (Rd.and (Rd.test (Rd.op (Rd.var (by walk_at "vr") (Rd.c (Rd.eqS (by walk_at "vr") (Rd.bl (Rd.iteT (by first | with_unfolding_all rfl | walk_at "bT") ?_)))))))))))
      with_reducible refine Rd.and (Rd.test (Rd.op (Rd.dget (Rd.var (by walk_at "vr") (Rd.c ?_)))))
      refine Rd.dget2 (by walk_at "hp") (by walk_at "dl") ?_
      with_reducible refine Rd.c (Rd.eqS (by walk_at "vr") (Rd.bl (Rd.iteF (by walk_at "bF") (Rd.iteF rfl (Rd.next ?_)))))
      refine ⟨by walk_at "hpt", ?_⟩
      refine Rd.unrTCons ?_
      with_reducible refine Rd.name ?_
      dsimp only [List.set]
      with_reducible refine Rd.seq (Rd.ifS (Rd.not (Rd.tb (Rd.call (Rd.cons (Rd.var (by walk_at "vr") (Rd.cons (Rd.dget (Rd.var (by walk_at "vr") (Rd.var (by walk_at "vr") ?_))))))))))
      refine Rd.dget2 (by walk_at "hp") (by walk_at "dl") ?_
      with_reducible refine Rd.nil ?_
      refine in_is_part (fun cdv Ar outer s hr => ?_) rfl
      have hu := hu_of hr
      refine ⟨_, (pss_cons (ps_if (pt_cmpR op_eq (pv 0) pe_str (nomark _)) (pss_one ps_never) pss_nil)
            (pss_cons (ps_if (pt_cmpR op_eq (pv 0) pe_str (nomark _)) (pss_one ps_never) pss_nil)
            (pss_one (ps_ret (pe_call (ok_is_word_of T) (hr.mono (by decide)) (by rfl) T.m_is_word_of T.F_is_word_of.kp T.b_is_word_of .nil pass0 (pa_cons (pv 1) (pa_cons (pe_ix ix_kdict (pe_glob (v := .ref A.t_PART_WORDS) rfl T.m_PART_WORDS rfl) (pv 0) (fun _ _ => rfl)) pa_nil))))))), ?_⟩
      try dsimp only [L2.cxOf, L2.Cx.nox, L2.Cx.wish]
      with_reducible refine Rd.seq (Rd.ifS (Rd.test (Rd.op (Rd.var (by walk_at "vr") (Rd.c (Rd.eqS (by walk_at "vr") (Rd.bl (Rd.iteF (by first | with_unfolding_all rfl | walk_at "bF") (Rd.next (Rd.seq (Rd.ifS ?_)))))))))))
      with_reducible refine Rd.test (Rd.op (Rd.var (by walk_at "vr") (Rd.c (Rd.eqS (by walk_at "vr") (Rd.bl (Rd.iteF (by first | with_unfolding_all rfl | walk_at "bF") (Rd.next (Rd.ret (Rd.call (Rd.cons (Rd.var (by walk_at "vr") ?_)))))))))))
      with_reducible refine Rd.cons (Rd.op (Rd.c (Rd.var (by walk_at "vr") ?_)))
      refine ⟨_, _, _, rfl, rfl, T.d_PART_WORDS_empty, ?_⟩
      with_reducible refine Rd.nil ?_
      refine in_is_word_of (fun cdv Ar outer s hr => ?_) rfl
      have hu := hu_of hr
      refine ⟨_, (pss_one (ps_ret (pe_and (pe_callB (Rd.isi (K := K) rfl) (by rfl) T.n_isinstance (by decide +kernel) (pa_cons (pv 0) (pa_cons (pe_bltn (v := .ty "str") (u := .type "str") (by rfl) T.n_str (by decide +kernel) rfl) pa_nil))) (pe_one (pe_cmpR op_in_seq (pv 0) (pv 1) (by with_unfolding_all rfl)))))), ?_⟩
      try dsimp only [L2.cxOf, L2.Cx.nox, L2.Cx.wish]
      with_reducible refine Rd.ret (Rd.andV (Rd.cB (Rd.cons (Rd.var (by walk_at "vr") (Rd.cons (Rd.c (Rd.nil ?_)))))))
      refine ⟨_, _, _, _, _, rfl, (by walk_at "clsv"), (by walk_at "tyx"), (by walk_at "kit"), ?_⟩
      with_reducible refine Rd.bl (Rd.iteT (by first | with_unfolding_all rfl | walk_at "bT") (Rd.op (Rd.var (by walk_at "vr") (Rd.var (by walk_at "vr") ?_))))
      refine Rd.inT (.inr (by walk_at "hpt")) rfl (by walk_at "flt") ?_
      with_reducible refine Rd.bl (Rd.iteF (by walk_at "bF") (Rd.next (Rd.ifS (Rd.and (Rd.test (Rd.op (Rd.var (by walk_at "vr") (Rd.c (Rd.eqS (by walk_at "vr") (Rd.bl (Rd.iteF (by first | with_unfolding_all rfl | walk_at "bF") ?_)))))))))))
      with_reducible refine Rd.iteF rfl (Rd.next ?_)
      refine ⟨by walk_at "hpt", ?_⟩
      refine Rd.unrTCons ?_
      with_reducible refine Rd.name ?_
      dsimp only [List.set]
      with_reducible refine Rd.seq (Rd.ifS (Rd.not (Rd.tb (Rd.call (Rd.cons (Rd.var (by walk_at "vr") (Rd.cons (Rd.dget (Rd.var (by walk_at "vr") (Rd.var (by walk_at "vr") ?_))))))))))
      refine Rd.dget2 (by walk_at "hp") (by walk_at "dl") ?_
      with_reducible refine Rd.nil ?_
      refine in_is_part (fun cdv Ar outer s hr => ?_) rfl
      have hu := hu_of hr
      refine ⟨_, (pss_cons (ps_if (pt_cmpR op_eq (pv 0) pe_str (nomark _)) (pss_one ps_never) pss_nil)
            (pss_cons (ps_if (pt_cmpR op_eq (pv 0) pe_str (nomark _)) (pss_one (ps_ret (pe_call (ok_is_full T) (hr.mono (by decide)) (by rfl) T.m_is_full T.F_is_full.kp T.b_is_full .nil pass0 (pa_cons (pv 1) pa_nil)))) pss_nil)
            (pss_one ps_never))), ?_⟩
      try dsimp only [L2.cxOf, L2.Cx.nox, L2.Cx.wish]
      with_reducible refine Rd.seq (Rd.ifS (Rd.test (Rd.op (Rd.var (by walk_at "vr") (Rd.c (Rd.eqS (by walk_at "vr") (Rd.bl (Rd.iteF (by first | with_unfolding_all rfl | walk_at "bF") (Rd.next (Rd.seq (Rd.ifS ?_)))))))))))
      with_reducible refine Rd.test (Rd.op (Rd.var (by walk_at "vr") (Rd.c (Rd.eqS (by walk_at "vr") (Rd.bl (Rd.iteT (by first | with_unfolding_all rfl | walk_at "bT") (Rd.ret (Rd.call (Rd.cons (Rd.var (by walk_at "vr") (Rd.nil ?_)))))))))))
      refine in_is_full (fun cdv Ar outer s hr => ?_) rfl
      have hu := hu_of hr
      refine ⟨_, (pss_cons (ps_if (pt_not (pt_val (pe_callB (Rd.isi (K := K) rfl) (by rfl) T.n_isinstance (by decide +kernel) (pa_cons (pv 0) (pa_cons (pe_bltn (v := .ty "tuple") (u := .type "tuple") (by rfl) T.n_tuple (by decide +kernel) rfl) pa_nil))))) (pss_one ps_never) pss_nil)
            (pss_cons (ps_if (pt_cmpR op_eq (pe_callB call_len_seq (by rfl) T.n_len PySem.boot_len (pa_cons (pv 0) pa_nil)) pe_int (nomark _)) (pss_one ps_never) pss_nil)
            (pss_cons (ps_if (pt_cmpR op_ne (pe_callB call_len_seq (by rfl) T.n_len PySem.boot_len (pa_cons (pv 0) pa_nil)) pe_int (nomark _)) (pss_one ps_never) pss_nil)
            (pss_one (ps_ret (pe_and (pe_call (ok_is_word_of T) (hr.mono (by decide)) (by rfl) T.m_is_word_of T.F_is_word_of.kp T.b_is_word_of .nil pass0 (pa_cons (pe_ix (Rd.ixTK rfl) (pv 0) pe_int (fun _ _ => rfl)) (pa_cons (pe_glob (v := .ref A.t_MEASURES) rfl T.m_MEASURES rfl) pa_nil))) (pe_and (pe_call (ok_is_word_of T) (hr.mono (by decide)) (by rfl) T.m_is_word_of T.F_is_word_of.kp T.b_is_word_of .nil pass0 (pa_cons (pe_ix (Rd.ixTK rfl) (pv 0) pe_int (fun _ _ => rfl)) (pa_cons (pe_glob (v := .ref A.t_SIGNS) rfl T.m_SIGNS rfl) pa_nil))) (pe_one (pe_call (ok_is_small_form T) (hr.mono (by decide)) (by rfl) T.m_is_small_form T.F_is_small_form.kp T.b_is_small_form .nil pass0 (pa_cons (pe_ix (Rd.ixTK rfl) (pv 0) pe_int (fun _ _ => rfl)) pa_nil)))))))))), ?_⟩
      try dsimp only [L2.cxOf, L2.Cx.nox, L2.Cx.wish]
      with_reducible refine Rd.seq (Rd.ifS (Rd.not (Rd.tb (Rd.cB (Rd.cons (Rd.var (by walk_at "vr") (Rd.cons (Rd.c (Rd.nil ?_)))))))))
      refine ⟨_, _, _, _, _, rfl, (by walk_at "clsv"), (by walk_at "tyx"), (by walk_at "kit"), ?_⟩
      with_reducible refine Rd.bl (Rd.iteF (by first | with_unfolding_all rfl | walk_at "bF") (Rd.next (Rd.seq (Rd.ifS (Rd.test (Rd.op (Rd.cB (Rd.cons (Rd.var (by walk_at "vr") (Rd.nil (⟨_, _, rfl, (by walk_at "hpq"), ?_⟩)))))))))))
      with_reducible refine Rd.c (Rd.eqS (by walk_at "vr") (Rd.bl (Rd.iteF (by first | with_unfolding_all rfl | walk_at "bF") (Rd.next (Rd.seq (Rd.ifS (Rd.test (Rd.op (Rd.cB (Rd.cons (Rd.var (by walk_at "vr") ?_)))))))))))
      with_reducible refine Rd.nil (⟨_, _, rfl, (by walk_at "hpq"), (Rd.c (Rd.neS (by walk_at "vr") (Rd.bl (Rd.iteF (by first | with_unfolding_all rfl | walk_at "bF") (Rd.next (Rd.ret (Rd.andV (Rd.call (Rd.cons (Rd.op ?_))))))))))⟩)
      with_reducible refine Rd.var (by walk_at "vr") (Rd.c (Rd.ixT (by walk_at "hpt") (by walk_at "vr") (Rd.cons (Rd.c (Rd.nil ?_)))))
      refine in_is_word_of (fun cdv Ar outer s hr => ?_) rfl
      have hu := hu_of hr
      refine ⟨_, (pss_one (ps_ret (pe_and (pe_callB (Rd.isi (K := K) rfl) (by rfl) T.n_isinstance (by decide +kernel) (pa_cons (pv 0) (pa_cons (pe_bltn (v := .ty "str") (u := .type "str") (by rfl) T.n_str (by decide +kernel) rfl) pa_nil))) (pe_one (pe_cmpR op_in_seq (pv 0) (pv 1) (by with_unfolding_all rfl)))))), ?_⟩
      try dsimp only [L2.cxOf, L2.Cx.nox, L2.Cx.wish]
      with_reducible refine Rd.ret (Rd.andV (Rd.cB (Rd.cons (Rd.var (by walk_at "vr") (Rd.cons (Rd.c (Rd.nil ?_)))))))
      refine ⟨_, _, _, _, _, rfl, (by walk_at "clsv"), (by walk_at "tyx"), (by walk_at "kit"), ?_⟩
      with_reducible refine Rd.bl (Rd.iteT (by first | with_unfolding_all rfl | walk_at "bT") (Rd.op (Rd.var (by walk_at "vr") (Rd.var (by walk_at "vr") ?_))))
      refine Rd.inT (.inr (by walk_at "hpt")) rfl (by walk_at "flt") ?_
      with_reducible refine Rd.bl (Rd.iteT (by walk_at "bT") (Rd.andV (Rd.call (Rd.cons (Rd.op (Rd.var (by walk_at "vr") (Rd.c (Rd.ixT (by walk_at "hpt") (by walk_at "vr") (Rd.cons (Rd.c (Rd.nil ?_)))))))))))
      refine in_is_word_of (fun cdv Ar outer s hr => ?_) rfl
      have hu := hu_of hr
      refine ⟨_, (pss_one (ps_ret (pe_and (pe_callB (Rd.isi (K := K) rfl) (by rfl) T.n_isinstance (by decide +kernel) (pa_cons (pv 0) (pa_cons (pe_bltn (v := .ty "str") (u := .type "str") (by rfl) T.n_str (by decide +kernel) rfl) pa_nil))) (pe_one (pe_cmpR op_in_seq (pv 0) (pv 1) (by with_unfolding_all rfl)))))), ?_⟩
      try dsimp only [L2.cxOf, L2.Cx.nox, L2.Cx.wish]
      with_reducible refine Rd.ret (Rd.andV (Rd.cB (Rd.cons (Rd.var (by walk_at "vr") (Rd.cons (Rd.c (Rd.nil ?_)))))))
      refine ⟨_, _, _, _, _, rfl, (by walk_at "clsv"), (by walk_at "tyx"), (by walk_at "kit"), ?_⟩
      with_reducible refine Rd.bl (Rd.iteT (by first | with_unfolding_all rfl | walk_at "bT") (Rd.op (Rd.var (by walk_at "vr") (Rd.var (by walk_at "vr") ?_))))
      refine Rd.inT (.inr (by walk_at "hpt")) rfl (by walk_at "flt") ?_
      with_reducible refine Rd.bl (Rd.iteT (by walk_at "bT") (Rd.call (Rd.cons (Rd.op (Rd.var (by walk_at "vr") (Rd.c (Rd.ixT (by walk_at "hpt") (by walk_at "vr") (Rd.nil ?_))))))))
      refine in_is_small_form (fun cdv Ar outer s hr => ?_) rfl
      have hu := hu_of hr
      refine ⟨_, (pss_cons (ps_if (pt_not (pt_val (pe_callB (Rd.isi (K := K) rfl) (by rfl) T.n_isinstance (by decide +kernel) (pa_cons (pv 0) (pa_cons (pe_glob (v := .ref A.c_Form) rfl T.m_Form rfl) pa_nil))))) (pss_one ps_never) pss_nil)
            (pss_one (ps_ret (pe_and (pe_chain op_le op_le pe_int (pe_fld (pv 0) rfl) (pe_glob (v := .int (4)) rfl T.m_GREATEST_SLOPE ⟨_, rfl⟩)) (pe_one (pe_chain op_le op_le (pe_un un_neg (pe_glob (v := .int (20)) rfl T.m_GREATEST_BASE ⟨_, rfl⟩)) (pe_fld (pv 0) rfl) (pe_glob (v := .int (20)) rfl T.m_GREATEST_BASE ⟨_, rfl⟩))))))), ?_⟩
      try dsimp only [L2.cxOf, L2.Cx.nox, L2.Cx.wish]
      with_reducible refine Rd.seq (Rd.ifS (Rd.not (Rd.tb (Rd.cB (Rd.cons (Rd.var (by walk_at "vr") (Rd.cons (Rd.c (Rd.nil ?_)))))))))
      refine ⟨_, _, _, _, _, rfl, (by walk_at "clsv"), (by walk_at "tyx"), (by walk_at "kit"), ?_⟩
      with_reducible refine Rd.bl (Rd.iteF (by first | with_unfolding_all rfl | walk_at "bF") (Rd.next (Rd.ret (Rd.andV (Rd.chain (Rd.c (Rd.fld (Rd.var (by walk_at "vr") (⟨_, _, _, _, _, rfl, (by walk_at "hp"), T.k_Form, T.n_Form_slope, (by walk_at "lk"), (Rd.i0 (Rd.bl ?_))⟩)))))))))
      with_reducible refine Rd.iteT (by walk_at "bT") (Rd.c (Rd.i0 (Rd.bl (Rd.iteT (by walk_at "bT") (Rd.chain (Rd.un (Rd.c (Rd.iU (Rd.fld (Rd.var (by walk_at "vr") (⟨_, _, _, _, _, rfl, (by walk_at "hp"), T.k_Form, T.n_Form_base, (by walk_at "lk"), ?_⟩)))))))))))
      with_reducible refine Rd.i0 (Rd.bl (Rd.iteT (by walk_at "bT") (Rd.c (Rd.i0 (Rd.bl (Rd.iteF (by walk_at "bF") (Rd.next (Rd.ifS (Rd.and (Rd.test (Rd.op ?_)))))))))))
      with_reducible refine Rd.var (by walk_at "vr") (Rd.c (Rd.eqS (by walk_at "vr") (Rd.bl (Rd.iteF (by first | with_unfolding_all rfl | walk_at "bF") (Rd.iteF rfl (Rd.next ?_))))))
      refine ⟨by walk_at "hpt", ?_⟩
      refine Rd.unrTCons ?_
      with_reducible refine Rd.name ?_
      dsimp only [List.set]
      with_reducible refine Rd.seq (Rd.ifS (Rd.not (Rd.tb (Rd.call (Rd.cons (Rd.var (by walk_at "vr") (Rd.cons (Rd.dget (Rd.var (by walk_at "vr") (Rd.var (by walk_at "vr") ?_))))))))))
      refine Rd.dget2 (by walk_at "hp") (by walk_at "dl") ?_
      with_reducible refine Rd.nil ?_
      refine in_is_part (fun cdv Ar outer s hr => ?_) rfl
      have hu := hu_of hr
      refine ⟨_, (pss_cons (ps_if (pt_cmpR op_eq (pv 0) pe_str (nomark _)) (pss_one ps_never) pss_nil)
            (pss_cons (ps_if (pt_cmpR op_eq (pv 0) pe_str (nomark _)) (pss_one ps_never) pss_nil)
            (pss_one (ps_ret (pe_call (ok_is_word_of T) (hr.mono (by decide)) (by rfl) T.m_is_word_of T.F_is_word_of.kp T.b_is_word_of .nil pass0 (pa_cons (pv 1) (pa_cons (pe_ix ix_kdict (pe_glob (v := .ref A.t_PART_WORDS) rfl T.m_PART_WORDS rfl) (pv 0) (fun _ _ => rfl)) pa_nil))))))), ?_⟩
      try dsimp only [L2.cxOf, L2.Cx.nox, L2.Cx.wish]
      with_reducible refine Rd.seq (Rd.ifS (Rd.test (Rd.op (Rd.var (by walk_at "vr") (Rd.c (Rd.eqS (by walk_at "vr") (Rd.bl (Rd.iteF (by first | with_unfolding_all rfl | walk_at "bF") (Rd.next (Rd.seq (Rd.ifS ?_)))))))))))
      with_reducible refine Rd.test (Rd.op (Rd.var (by walk_at "vr") (Rd.c (Rd.eqS (by walk_at "vr") (Rd.bl (Rd.iteF (by first | with_unfolding_all rfl | walk_at "bF") (Rd.next (Rd.ret (Rd.call (Rd.cons (Rd.var (by walk_at "vr") ?_)))))))))))
      with_reducible refine Rd.cons (Rd.op (Rd.c (Rd.var (by walk_at "vr") ?_)))
      refine ⟨_, _, _, rfl, rfl, T.d_PART_WORDS_when, ?_⟩
      with_reducible refine Rd.nil ?_
      refine in_is_word_of (fun cdv Ar outer s hr => ?_) rfl
      have hu := hu_of hr
      refine ⟨_, (pss_one (ps_ret (pe_and (pe_callB (Rd.isi (K := K) rfl) (by rfl) T.n_isinstance (by decide +kernel) (pa_cons (pv 0) (pa_cons (pe_bltn (v := .ty "str") (u := .type "str") (by rfl) T.n_str (by decide +kernel) rfl) pa_nil))) (pe_one (pe_cmpR op_in_seq (pv 0) (pv 1) (by with_unfolding_all rfl)))))), ?_⟩
      try dsimp only [L2.cxOf, L2.Cx.nox, L2.Cx.wish]
      with_reducible refine Rd.ret (Rd.andV (Rd.cB (Rd.cons (Rd.var (by walk_at "vr") (Rd.cons (Rd.c (Rd.nil ?_)))))))
      refine ⟨_, _, _, _, _, rfl, (by walk_at "clsv"), (by walk_at "tyx"), (by walk_at "kit"), ?_⟩
      with_reducible refine Rd.bl (Rd.iteT (by first | with_unfolding_all rfl | walk_at "bT") (Rd.op (Rd.var (by walk_at "vr") (Rd.var (by walk_at "vr") ?_))))
      refine Rd.inT (.inr (by walk_at "hpt")) rfl (by walk_at "flt") ?_
      with_reducible refine Rd.bl (Rd.iteF (by walk_at "bF") (Rd.next (Rd.ifS (Rd.and (Rd.test (Rd.op (Rd.var (by walk_at "vr") (Rd.c (Rd.eqS (by walk_at "vr") (Rd.bl (Rd.iteF (by first | with_unfolding_all rfl | walk_at "bF") ?_)))))))))))
      with_reducible refine Rd.iteF rfl (Rd.next ?_)
      refine ⟨by walk_at "hpt", ?_⟩
      refine Rd.unrTNil ?_
      with_reducible refine Rd.ret (Rd.c (Rd.name ?_))
      try dsimp only [Int.reduceToNat, List.set]
      with_reducible refine Rd.seq (Rd.ifS (Rd.test (Rd.op (Rd.var (by walk_at "vr") (Rd.c (⟨rfl, (Rd.bl (Rd.iteF (by first | with_unfolding_all rfl | walk_at "bF") (Rd.next (Rd.sfld (Rd.var (by walk_at "vr") ?_)))))⟩))))))
      with_reducible refine Rd.var (by walk_at "vr") (⟨_, _, _, _, rfl, (by walk_at "hp"), T.k_Scheme, T.n_Scheme_parts, (by walk_at "sfl"), ?_⟩)
      rw [fS_put]
      exact k _ _ (by walk_at "frm") (by assumption) L2.upd_same (by walk_at "hp")
    · obtain ⟨pw, dw, rfl, hpw⟩ := hw
      have w1 : 0 ≤ s ∧ s ≤ 4 ∧ -20 ≤ b ∧ b ≤ 20 := w1
      obtain ⟨pf, rfl, hpf⟩ := hf
      have i4 : inV (.str kk) [.str "next", .str "note"] = true := Rd.inW (ws := ["next", "note"]) w4
      have n4 : (!inV (.str kk) [.str "next", .str "note"]) = false := Rd.notF i4
      have i2 : (!inV (.str sl) [.str "rest", .str "off", .str "mask"]) = false := Rd.notF (Rd.inW (ws := ["rest", "off", "mask"]) w2)
      have i3 : (!inV (.str em) [.str "same", .str "count", .str "note"]) = false := Rd.notF (Rd.inW (ws := ["same", "count", "note"]) w3)
      have i6 : (!inV (.str wn) [.str "refuse", .str "drop", .str "over"]) = false := Rd.notF (Rd.inW (ws := ["refuse", "drop", "over"]) w5)
      have m1 : decide (V.str sl = V.str "mask") = false := nmask (w6 _ _ rfl)
      refine ⟨_, (pss_cons (ps_set (i := 6) sc_Schemeu__initu_.nd rfl (Or.inl rfl) (pe_disp (pps_cons pe_str (pv 1) (pps_cons pe_str (pv 2) (pps_cons pe_str (pv 3) (pps_cons pe_str (pv 4) (pps_cons pe_str (pv 5) pps_nil))))) rfl rfl (by simp) (by decide)))
      (pss_cons (ps_set (i := 7) sc_Schemeu__initu_.nd rfl (Or.inl rfl) (pe_call (ok_first_wrong T) (hr.mono (by decide)) (by rfl) T.m_first_wrong T.F_first_wrong.kp T.b_first_wrong .nil pass0 (pa_cons (pv 6) pa_nil)))
      (pss_cons (ps_if (pt_cmpR op_notN (pv 7) pe_non (nomark _)) (pss_one ps_never) pss_nil)
      (pss_one (ps_fld (pv 0) (pv 6) rfl))))), ?_⟩
      try dsimp only [L2.cxOf, L2.Cx.nox, L2.Cx.wish]
      try rw [st_Schemeu__initu_]
      with_reducible refine Rd.seq (Rd.asg ?_)
      refine Rd.disp5 (fun _ _ h => Rd.var (by walk_at "vr") h) (fun _ _ h => Rd.var (by walk_at "vr") h) (fun _ _ h => Rd.var (by walk_at "vr") h) (fun _ _ h => Rd.var (by walk_at "vr") h) (fun _ _ h => Rd.var (by walk_at "vr") h) ?_
      intro pd222_16 npd222_16
      rw [kvP_merge]
      with_reducible refine Rd.name ?_
      try dsimp only [Int.reduceToNat, List.set]
      with_reducible refine Rd.seq (Rd.asg (Rd.call (Rd.cons (Rd.var (by walk_at "vr") (Rd.nil ?_)))))
      refine in_first_wrong (fun cdv Ar outer s hr => ?_) rfl
      have hu := hu_of hr
      refine ⟨_, (pss_cons (ps_for PassesOwn.never rfl (pi_tup (pe_glob (v := .ref A.t_PART_NAMES) rfl T.m_PART_NAMES rfl)) (pg_name (i := 1) sc_first_wrong.nd rfl (Or.inl rfl)) (pss_cons (ps_if (pt_not (pt_val (pe_call (ok_is_part T) (hr.mono (by decide)) (by rfl) T.m_is_part T.F_is_part.kp T.b_is_part .nil pass0 (pa_cons (pv 1) (pa_cons (pe_dget hu (pv 0) (pv 1) (fun _ _ => rfl)) pa_nil))))) (pss_one ps_never) pss_nil) (pss_one (ps_if (PW.pt (pw_and (pt_cmpR op_eq (pv 1) pe_str (nomark _)) (pw_and (pt_cmpR op_eq (pe_dget hu (pv 0) pe_str (fun _ _ => rfl)) pe_str (nomark _)) (pw_and1 Rd.ptN)))) (pss_one ps_never) pss_nil))))
            (pss_one (ps_ret pe_non))), ?_⟩
      try dsimp only [L2.cxOf, L2.Cx.nox, L2.Cx.wish]
      with_reducible refine Rd.seq (Rd.fr (Rd.it (Rd.c (⟨_, rfl, ?_⟩))))
      refine Rd.unrollT (by walk_at "hpt") ?_
      refine Rd.unrTCons ?_
      with_reducible refine Rd.name ?_
      dsimp only [List.set]
      with_reducible refine Rd.seq (Rd.ifS (Rd.not (Rd.tb (Rd.call (Rd.cons (Rd.var (by walk_at "vr") (Rd.cons (Rd.dget (Rd.var (by walk_at "vr") (Rd.var (by walk_at "vr") ?_))))))))))
      refine Rd.dget2 (by walk_at "hp") (by walk_at "dl") ?_
      with_reducible refine Rd.nil ?_
      refine in_is_part (fun cdv Ar outer s hr => ?_) rfl
      have hu := hu_of hr
      refine ⟨_, (pss_cons (ps_if (pt_cmpR op_eq (pv 0) pe_str (nomark _)) (pss_one (ps_ret (pe_call (ok_is_wrap T) (hr.mono (by decide)) (by rfl) T.m_is_wrap T.F_is_wrap.kp T.b_is_wrap .nil pass0 (pa_cons (pv 1) pa_nil)))) pss_nil)
            (pss_cons ps_never (pss_one ps_never))), ?_⟩
      try dsimp only [L2.cxOf, L2.Cx.nox, L2.Cx.wish]
      with_reducible refine Rd.seq (Rd.ifS (Rd.test (Rd.op (Rd.var (by walk_at "vr") (Rd.c (Rd.eqS (by walk_at "vr") (Rd.bl (Rd.iteT (by first | with_unfolding_all rfl | walk_at "bT") (Rd.ret (Rd.call (Rd.cons ?_)))))))))))
      with_reducible refine Rd.var (by walk_at "vr") (Rd.nil ?_)
      refine in_is_wrap (fun cdv Ar outer s hr => ?_) rfl
      have hu := hu_of hr
      refine ⟨_, (pss_one (ps_ret (pe_or (pe_call (ok_is_small_form T) (hr.mono (by decide)) (by rfl) T.m_is_small_form T.F_is_small_form.kp T.b_is_small_form .nil pass0 (pa_cons (pv 0) pa_nil)) (pe_one Rd.peN)))), ?_⟩
      try dsimp only [L2.cxOf, L2.Cx.nox, L2.Cx.wish]
      with_reducible refine Rd.ret (Rd.orV (Rd.call (Rd.cons (Rd.var (by walk_at "vr") (Rd.nil ?_)))))
      refine in_is_small_form (fun cdv Ar outer s hr => ?_) rfl
      have hu := hu_of hr
      refine ⟨_, (pss_cons (ps_if (pt_not (pt_val (pe_callB (Rd.isi (K := K) rfl) (by rfl) T.n_isinstance (by decide +kernel) (pa_cons (pv 0) (pa_cons (pe_glob (v := .ref A.c_Form) rfl T.m_Form rfl) pa_nil))))) (pss_one ps_never) pss_nil)
            (pss_one (ps_ret (pe_and (pe_chain op_le op_le pe_int (pe_fld (pv 0) rfl) (pe_glob (v := .int (4)) rfl T.m_GREATEST_SLOPE ⟨_, rfl⟩)) (pe_one (pe_chain op_le op_le (pe_un un_neg (pe_glob (v := .int (20)) rfl T.m_GREATEST_BASE ⟨_, rfl⟩)) (pe_fld (pv 0) rfl) (pe_glob (v := .int (20)) rfl T.m_GREATEST_BASE ⟨_, rfl⟩))))))), ?_⟩
      try dsimp only [L2.cxOf, L2.Cx.nox, L2.Cx.wish]
      with_reducible refine Rd.seq (Rd.ifS (Rd.not (Rd.tb (Rd.cB (Rd.cons (Rd.var (by walk_at "vr") (Rd.cons (Rd.c (Rd.nil ?_)))))))))
      refine ⟨_, _, _, _, _, rfl, (by walk_at "clsv"), (by walk_at "tyx"), (by walk_at "kit"), ?_⟩
      with_reducible refine Rd.bl (Rd.iteF (by first | with_unfolding_all rfl | walk_at "bF") (Rd.next (Rd.ret (Rd.andV (Rd.chain (Rd.c (Rd.fld (Rd.var (by walk_at "vr") (⟨_, _, _, _, _, rfl, (by walk_at "hp"), T.k_Form, T.n_Form_slope, (by walk_at "lk"), (Rd.i0 (Rd.bl ?_))⟩)))))))))
      with_reducible refine Rd.iteT (by walk_at "bT") (Rd.c (Rd.i0 (Rd.bl (Rd.iteT (by walk_at "bT") (Rd.chain (Rd.un (Rd.c (Rd.iU (Rd.fld (Rd.var (by walk_at "vr") (⟨_, _, _, _, _, rfl, (by walk_at "hp"), T.k_Form, T.n_Form_base, (by walk_at "lk"), ?_⟩)))))))))))
      with_reducible refine Rd.i0 (Rd.bl (Rd.iteT (by walk_at "bT") (Rd.c (Rd.i0 (Rd.bl (Rd.iteT (by first | with_unfolding_all rfl | walk_at "bT") (Rd.bl (Rd.iteF (by walk_at "bF") (Rd.next (Rd.ifS (Rd.and ?_)))))))))))
      with_reducible refine Rd.test (Rd.op (Rd.var (by walk_at "vr") (Rd.c (Rd.eqS (by walk_at "vr") (Rd.bl (Rd.iteF (by first | with_unfolding_all rfl | walk_at "bF") (Rd.iteF rfl (Rd.next ?_))))))))
      refine ⟨by walk_at "hpt", ?_⟩
      refine Rd.unrTCons ?_
      with_reducible refine Rd.name ?_
      dsimp only [List.set]
      with_reducible refine Rd.seq (Rd.ifS (Rd.not (Rd.tb (Rd.call (Rd.cons (Rd.var (by walk_at "vr") (Rd.cons (Rd.dget (Rd.var (by walk_at "vr") (Rd.var (by walk_at "vr") ?_))))))))))
      refine Rd.dget2 (by walk_at "hp") (by walk_at "dl") ?_
      with_reducible refine Rd.nil ?_
      refine in_is_part (fun cdv Ar outer s hr => ?_) rfl
      have hu := hu_of hr
      refine ⟨_, (pss_cons (ps_if (pt_cmpR op_eq (pv 0) pe_str (nomark _)) (pss_one ps_never) pss_nil)
            (pss_cons (ps_if (pt_cmpR op_eq (pv 0) pe_str (nomark _)) (pss_one ps_never) pss_nil)
            (pss_one (ps_ret (pe_call (ok_is_word_of T) (hr.mono (by decide)) (by rfl) T.m_is_word_of T.F_is_word_of.kp T.b_is_word_of .nil pass0 (pa_cons (pv 1) (pa_cons (pe_ix ix_kdict (pe_glob (v := .ref A.t_PART_WORDS) rfl T.m_PART_WORDS rfl) (pv 0) (fun _ _ => rfl)) pa_nil))))))), ?_⟩
      try dsimp only [L2.cxOf, L2.Cx.nox, L2.Cx.wish]
      with_reducible refine Rd.seq (Rd.ifS (Rd.test (Rd.op (Rd.var (by walk_at "vr") (Rd.c (Rd.eqS (by walk_at "vr") (Rd.bl (Rd.iteF (by first | with_unfolding_all rfl | walk_at "bF") (Rd.next (Rd.seq (Rd.ifS ?_)))))))))))
      with_reducible refine Rd.test (Rd.op (Rd.var (by walk_at "vr") (Rd.c (Rd.eqS (by walk_at "vr") (Rd.bl (Rd.iteF (by first | with_unfolding_all rfl | walk_at "bF") (Rd.next (Rd.ret (Rd.call (Rd.cons (Rd.var (by walk_at "vr") ?_)))))))))))
      with_reducible refine Rd.cons (Rd.op (Rd.c (Rd.var (by walk_at "vr") ?_)))
      refine ⟨_, _, _, rfl, rfl, T.d_PART_WORDS_slot, ?_⟩
      with_reducible refine Rd.nil ?_
      refine in_is_word_of (fun cdv Ar outer s hr => ?_) rfl
      have hu := hu_of hr
      refine ⟨_, (pss_one (ps_ret (pe_and (pe_callB (Rd.isi (K := K) rfl) (by rfl) T.n_isinstance (by decide +kernel) (pa_cons (pv 0) (pa_cons (pe_bltn (v := .ty "str") (u := .type "str") (by rfl) T.n_str (by decide +kernel) rfl) pa_nil))) (pe_one (pe_cmpR op_in_seq (pv 0) (pv 1) (by with_unfolding_all rfl)))))), ?_⟩
      try dsimp only [L2.cxOf, L2.Cx.nox, L2.Cx.wish]
      with_reducible refine Rd.ret (Rd.andV (Rd.cB (Rd.cons (Rd.var (by walk_at "vr") (Rd.cons (Rd.c (Rd.nil ?_)))))))
      refine ⟨_, _, _, _, _, rfl, (by walk_at "clsv"), (by walk_at "tyx"), (by walk_at "kit"), ?_⟩
      with_reducible refine Rd.bl (Rd.iteT (by first | with_unfolding_all rfl | walk_at "bT") (Rd.op (Rd.var (by walk_at "vr") (Rd.var (by walk_at "vr") ?_))))
      refine Rd.inT (.inr (by walk_at "hpt")) rfl (by walk_at "flt") ?_
      with_reducible refine Rd.bl (Rd.iteF (by walk_at "bF") (Rd.next (Rd.ifS (Rd.and (Rd.test (Rd.op (Rd.var (by walk_at "vr") (Rd.c (Rd.eqS (by walk_at "vr") (Rd.bl (Rd.iteT (by first | with_unfolding_all rfl | walk_at "bT") ?_)))))))))))
      with_reducible refine Rd.and (Rd.test (Rd.op (Rd.dget (Rd.var (by walk_at "vr") (Rd.c ?_)))))
      refine Rd.dget2 (by walk_at "hp") (by walk_at "dl") ?_
      with_reducible refine Rd.c (Rd.eqS (by walk_at "vr") (Rd.bl (Rd.iteF (by walk_at "bF") (Rd.iteF rfl (Rd.next ?_)))))
      refine ⟨by walk_at "hpt", ?_⟩
      refine Rd.unrTCons ?_
      with_reducible refine Rd.name ?_
      dsimp only [List.set]
      with_reducible refine Rd.seq (Rd.ifS (Rd.not (Rd.tb (Rd.call (Rd.cons (Rd.var (by walk_at "vr") (Rd.cons (Rd.dget (Rd.var (by walk_at "vr") (Rd.var (by walk_at "vr") ?_))))))))))
      refine Rd.dget2 (by walk_at "hp") (by walk_at "dl") ?_
      with_reducible refine Rd.nil ?_
      refine in_is_part (fun cdv Ar outer s hr => ?_) rfl
      have hu := hu_of hr
      refine ⟨_, (pss_cons (ps_if (pt_cmpR op_eq (pv 0) pe_str (nomark _)) (pss_one ps_never) pss_nil)
            (pss_cons (ps_if (pt_cmpR op_eq (pv 0) pe_str (nomark _)) (pss_one ps_never) pss_nil)
            (pss_one (ps_ret (pe_call (ok_is_word_of T) (hr.mono (by decide)) (by rfl) T.m_is_word_of T.F_is_word_of.kp T.b_is_word_of .nil pass0 (pa_cons (pv 1) (pa_cons (pe_ix ix_kdict (pe_glob (v := .ref A.t_PART_WORDS) rfl T.m_PART_WORDS rfl) (pv 0) (fun _ _ => rfl)) pa_nil))))))), ?_⟩
      try dsimp only [L2.cxOf, L2.Cx.nox, L2.Cx.wish]
      with_reducible refine Rd.seq (Rd.ifS (Rd.test (Rd.op (Rd.var (by walk_at "vr") (Rd.c (Rd.eqS (by walk_at "vr") (Rd.bl (Rd.iteF (by first | with_unfolding_all rfl | walk_at "bF") (Rd.next (Rd.seq (Rd.ifS ?_)))))))))))
      with_reducible refine Rd.test (Rd.op (Rd.var (by walk_at "vr") (Rd.c (Rd.eqS (by walk_at "vr") (Rd.bl (Rd.iteF (by first | with_unfolding_all rfl | walk_at "bF") (Rd.next (Rd.ret (Rd.call (Rd.cons (Rd.var (by walk_at "vr") ?_)))))))))))
      with_reducible refine Rd.cons (Rd.op (Rd.c (Rd.var (by walk_at "vr") ?_)))
      refine ⟨_, _, _, rfl, rfl, T.d_PART_WORDS_empty, ?_⟩
      with_reducible refine Rd.nil ?_
      refine in_is_word_of (fun cdv Ar outer s hr => ?_) rfl
      have hu := hu_of hr
      refine ⟨_, (pss_one (ps_ret (pe_and (pe_callB (Rd.isi (K := K) rfl) (by rfl) T.n_isinstance (by decide +kernel) (pa_cons (pv 0) (pa_cons (pe_bltn (v := .ty "str") (u := .type "str") (by rfl) T.n_str (by decide +kernel) rfl) pa_nil))) (pe_one (pe_cmpR op_in_seq (pv 0) (pv 1) (by with_unfolding_all rfl)))))), ?_⟩
      try dsimp only [L2.cxOf, L2.Cx.nox, L2.Cx.wish]
      with_reducible refine Rd.ret (Rd.andV (Rd.cB (Rd.cons (Rd.var (by walk_at "vr") (Rd.cons (Rd.c (Rd.nil ?_)))))))
      refine ⟨_, _, _, _, _, rfl, (by walk_at "clsv"), (by walk_at "tyx"), (by walk_at "kit"), ?_⟩
      with_reducible refine Rd.bl (Rd.iteT (by first | with_unfolding_all rfl | walk_at "bT") (Rd.op (Rd.var (by walk_at "vr") (Rd.var (by walk_at "vr") ?_))))
      refine Rd.inT (.inr (by walk_at "hpt")) rfl (by walk_at "flt") ?_
      with_reducible refine Rd.bl (Rd.iteF (by walk_at "bF") (Rd.next (Rd.ifS (Rd.and (Rd.test (Rd.op (Rd.var (by walk_at "vr") (Rd.c (Rd.eqS (by walk_at "vr") (Rd.bl (Rd.iteF (by first | with_unfolding_all rfl | walk_at "bF") ?_)))))))))))
      with_reducible refine Rd.iteF rfl (Rd.next ?_)
      refine ⟨by walk_at "hpt", ?_⟩
      refine Rd.unrTCons ?_
      with_reducible refine Rd.name ?_
      dsimp only [List.set]
      with_reducible refine Rd.seq (Rd.ifS (Rd.not (Rd.tb (Rd.call (Rd.cons (Rd.var (by walk_at "vr") (Rd.cons (Rd.dget (Rd.var (by walk_at "vr") (Rd.var (by walk_at "vr") ?_))))))))))
      refine Rd.dget2 (by walk_at "hp") (by walk_at "dl") ?_
      with_reducible refine Rd.nil ?_
      refine in_is_part (fun cdv Ar outer s hr => ?_) rfl
      have hu := hu_of hr
      refine ⟨_, (pss_cons (ps_if (pt_cmpR op_eq (pv 0) pe_str (nomark _)) (pss_one ps_never) pss_nil)
            (pss_cons (ps_if (pt_cmpR op_eq (pv 0) pe_str (nomark _)) (pss_one (ps_ret (pe_call (ok_is_full T) (hr.mono (by decide)) (by rfl) T.m_is_full T.F_is_full.kp T.b_is_full .nil pass0 (pa_cons (pv 1) pa_nil)))) pss_nil)
            (pss_one ps_never))), ?_⟩
      try dsimp only [L2.cxOf, L2.Cx.nox, L2.Cx.wish]
      with_reducible refine Rd.seq (Rd.ifS (Rd.test (Rd.op (Rd.var (by walk_at "vr") (Rd.c (Rd.eqS (by walk_at "vr") (Rd.bl (Rd.iteF (by first | with_unfolding_all rfl | walk_at "bF") (Rd.next (Rd.seq (Rd.ifS ?_)))))))))))
      with_reducible refine Rd.test (Rd.op (Rd.var (by walk_at "vr") (Rd.c (Rd.eqS (by walk_at "vr") (Rd.bl (Rd.iteT (by first | with_unfolding_all rfl | walk_at "bT") (Rd.ret (Rd.call (Rd.cons (Rd.var (by walk_at "vr") (Rd.nil ?_)))))))))))
      refine in_is_full (fun cdv Ar outer s hr => ?_) rfl
      have hu := hu_of hr
      refine ⟨_, (pss_cons (ps_if (pt_not (pt_val (pe_callB (Rd.isi (K := K) rfl) (by rfl) T.n_isinstance (by decide +kernel) (pa_cons (pv 0) (pa_cons (pe_bltn (v := .ty "tuple") (u := .type "tuple") (by rfl) T.n_tuple (by decide +kernel) rfl) pa_nil))))) (pss_one ps_never) pss_nil)
            (pss_cons (ps_if (pt_cmpR op_eq (pe_callB call_len_seq (by rfl) T.n_len PySem.boot_len (pa_cons (pv 0) pa_nil)) pe_int (nomark _)) (pss_one (ps_ret (pe_call (ok_is_word_of T) (hr.mono (by decide)) (by rfl) T.m_is_word_of T.F_is_word_of.kp T.b_is_word_of .nil pass0 (pa_cons (pe_ix (Rd.ixTK rfl) (pv 0) pe_int (fun _ _ => rfl)) (pa_cons (pe_glob (v := .ref A.t_PLAIN_FULLS) rfl T.m_PLAIN_FULLS rfl) pa_nil))))) pss_nil)
            (pss_cons ps_never (pss_one ps_never)))), ?_⟩
      try dsimp only [L2.cxOf, L2.Cx.nox, L2.Cx.wish]
      with_reducible refine Rd.seq (Rd.ifS (Rd.not (Rd.tb (Rd.cB (Rd.cons (Rd.var (by walk_at "vr") (Rd.cons (Rd.c (Rd.nil ?_)))))))))
      refine ⟨_, _, _, _, _, rfl, (by walk_at "clsv"), (by walk_at "tyx"), (by walk_at "kit"), ?_⟩
      with_reducible refine Rd.bl (Rd.iteF (by first | with_unfolding_all rfl | walk_at "bF") (Rd.next (Rd.seq (Rd.ifS (Rd.test (Rd.op (Rd.cB (Rd.cons (Rd.var (by walk_at "vr") (Rd.nil (⟨_, _, rfl, (by walk_at "hpq"), ?_⟩)))))))))))
      with_reducible refine Rd.c (Rd.eqS (by walk_at "vr") (Rd.bl (Rd.iteT (by first | with_unfolding_all rfl | walk_at "bT") (Rd.ret (Rd.call (Rd.cons (Rd.op (Rd.var (by walk_at "vr") (Rd.c (Rd.ixT (by walk_at "hpt") (by walk_at "vr") (Rd.cons ?_)))))))))))
      with_reducible refine Rd.c (Rd.nil ?_)
      refine in_is_word_of (fun cdv Ar outer s hr => ?_) rfl
      have hu := hu_of hr
      refine ⟨_, (pss_one (ps_ret (pe_and (pe_callB (Rd.isi (K := K) rfl) (by rfl) T.n_isinstance (by decide +kernel) (pa_cons (pv 0) (pa_cons (pe_bltn (v := .ty "str") (u := .type "str") (by rfl) T.n_str (by decide +kernel) rfl) pa_nil))) (pe_one (pe_cmpR op_in_seq (pv 0) (pv 1) (by with_unfolding_all rfl)))))), ?_⟩
      try dsimp only [L2.cxOf, L2.Cx.nox, L2.Cx.wish]
      with_reducible refine Rd.ret (Rd.andV (Rd.cB (Rd.cons (Rd.var (by walk_at "vr") (Rd.cons (Rd.c (Rd.nil ?_)))))))
      refine ⟨_, _, _, _, _, rfl, (by walk_at "clsv"), (by walk_at "tyx"), (by walk_at "kit"), ?_⟩
      with_reducible refine Rd.bl (Rd.iteT (by first | with_unfolding_all rfl | walk_at "bT") (Rd.op (Rd.var (by walk_at "vr") (Rd.var (by walk_at "vr") ?_))))
      refine Rd.inT (.inr (by walk_at "hpt")) rfl (by walk_at "flt") ?_
      with_reducible refine Rd.bl (Rd.iteF (by walk_at "bF") (Rd.next (Rd.ifS (Rd.and (Rd.test (Rd.op (Rd.var (by walk_at "vr") (Rd.c (Rd.eqS (by walk_at "vr") (Rd.bl (Rd.iteF (by first | with_unfolding_all rfl | walk_at "bF") ?_)))))))))))
      with_reducible refine Rd.iteF rfl (Rd.next ?_)
      refine ⟨by walk_at "hpt", ?_⟩
      refine Rd.unrTCons ?_
      with_reducible refine Rd.name ?_
      dsimp only [List.set]
      with_reducible refine Rd.seq (Rd.ifS (Rd.not (Rd.tb (Rd.call (Rd.cons (Rd.var (by walk_at "vr") (Rd.cons (Rd.dget (Rd.var (by walk_at "vr") (Rd.var (by walk_at "vr") ?_))))))))))
      refine Rd.dget2 (by walk_at "hp") (by walk_at "dl") ?_
      with_reducible refine Rd.nil ?_
      refine in_is_part (fun cdv Ar outer s hr => ?_) rfl
      have hu := hu_of hr
      refine ⟨_, (pss_cons (ps_if (pt_cmpR op_eq (pv 0) pe_str (nomark _)) (pss_one ps_never) pss_nil)
            (pss_cons (ps_if (pt_cmpR op_eq (pv 0) pe_str (nomark _)) (pss_one ps_never) pss_nil)
            (pss_one (ps_ret (pe_call (ok_is_word_of T) (hr.mono (by decide)) (by rfl) T.m_is_word_of T.F_is_word_of.kp T.b_is_word_of .nil pass0 (pa_cons (pv 1) (pa_cons (pe_ix ix_kdict (pe_glob (v := .ref A.t_PART_WORDS) rfl T.m_PART_WORDS rfl) (pv 0) (fun _ _ => rfl)) pa_nil))))))), ?_⟩
      try dsimp only [L2.cxOf, L2.Cx.nox, L2.Cx.wish]
      with_reducible refine Rd.seq (Rd.ifS (Rd.test (Rd.op (Rd.var (by walk_at "vr") (Rd.c (Rd.eqS (by walk_at "vr") (Rd.bl (Rd.iteF (by first | with_unfolding_all rfl | walk_at "bF") (Rd.next (Rd.seq (Rd.ifS ?_)))))))))))
      with_reducible refine Rd.test (Rd.op (Rd.var (by walk_at "vr") (Rd.c (Rd.eqS (by walk_at "vr") (Rd.bl (Rd.iteF (by first | with_unfolding_all rfl | walk_at "bF") (Rd.next (Rd.ret (Rd.call (Rd.cons (Rd.var (by walk_at "vr") ?_)))))))))))
      with_reducible refine Rd.cons (Rd.op (Rd.c (Rd.var (by walk_at "vr") ?_)))
      refine ⟨_, _, _, rfl, rfl, T.d_PART_WORDS_when, ?_⟩
      with_reducible refine Rd.nil ?_
      refine in_is_word_of (fun cdv Ar outer s hr => ?_) rfl
      have hu := hu_of hr
      refine ⟨_, (pss_one (ps_ret (pe_and (pe_callB (Rd.isi (K := K) rfl) (by rfl) T.n_isinstance (by decide +kernel) (pa_cons (pv 0) (pa_cons (pe_bltn (v := .ty "str") (u := .type "str") (by rfl) T.n_str (by decide +kernel) rfl) pa_nil))) (pe_one (pe_cmpR op_in_seq (pv 0) (pv 1) (by with_unfolding_all rfl)))))), ?_⟩
      try dsimp only [L2.cxOf, L2.Cx.nox, L2.Cx.wish]
      with_reducible refine Rd.ret (Rd.andV (Rd.cB (Rd.cons (Rd.var (by walk_at "vr") (Rd.cons (Rd.c (Rd.nil ?_)))))))
      refine ⟨_, _, _, _, _, rfl, (by walk_at "clsv"), (by walk_at "tyx"), (by walk_at "kit"), ?_⟩
      with_reducible refine Rd.bl (Rd.iteT (by first | with_unfolding_all rfl | walk_at "bT") (Rd.op (Rd.var (by walk_at "vr") (Rd.var (by walk_at "vr") ?_))))
      refine Rd.inT (.inr (by walk_at "hpt")) rfl (by walk_at "flt") ?_
      with_reducible refine Rd.bl (Rd.iteF (by walk_at "bF") (Rd.next (Rd.ifS (Rd.and (Rd.test (Rd.op (Rd.var (by walk_at "vr") (Rd.c (Rd.eqS (by walk_at "vr") (Rd.bl (Rd.iteF (by first | with_unfolding_all rfl | walk_at "bF") ?_)))))))))))
      with_reducible refine Rd.iteF rfl (Rd.next ?_)
      refine ⟨by walk_at "hpt", ?_⟩
      refine Rd.unrTNil ?_
      with_reducible refine Rd.ret (Rd.c (Rd.name ?_))
      try dsimp only [Int.reduceToNat, List.set]
      with_reducible refine Rd.seq (Rd.ifS (Rd.test (Rd.op (Rd.var (by walk_at "vr") (Rd.c (⟨rfl, (Rd.bl (Rd.iteF (by first | with_unfolding_all rfl | walk_at "bF") (Rd.next (Rd.sfld (Rd.var (by walk_at "vr") ?_)))))⟩))))))
      with_reducible refine Rd.var (by walk_at "vr") (⟨_, _, _, _, rfl, (by walk_at "hp"), T.k_Scheme, T.n_Scheme_parts, (by walk_at "sfl"), ?_⟩)
      rw [fS_put]
      exact k _ _ (by walk_at "frm") (by assumption) L2.upd_same (by walk_at "hp")
    · obtain ⟨pw, dw, rfl, hpw⟩ := hw
      have w1 : 0 ≤ s ∧ s ≤ 4 ∧ -20 ≤ b ∧ b ≤ 20 := w1
      obtain ⟨pf, qf, dqf, rfl, hpf, hqf⟩ := hf
      obtain ⟨f1, f2, f3⟩ := w4
      have i4 : inV (.str kk) [.str "diff", .str "count"] = true := Rd.inW (ws := ["diff", "count"]) f1
      have i5 : inV (.str g) [.str "=", .str ">="] = true := Rd.inW (ws := ["=", ">="]) f2
      have i2 : (!inV (.str sl) [.str "rest", .str "off", .str "mask"]) = false := Rd.notF (Rd.inW (ws := ["rest", "off", "mask"]) w2)
      have i3 : (!inV (.str em) [.str "same", .str "count", .str "note"]) = false := Rd.notF (Rd.inW (ws := ["same", "count", "note"]) w3)
      have i6 : (!inV (.str wn) [.str "refuse", .str "drop", .str "over"]) = false := Rd.notF (Rd.inW (ws := ["refuse", "drop", "over"]) w5)
      have m1 : decide (V.str sl = V.str "mask") = false := nmask (w6 _ _ rfl)
      refine ⟨_, (pss_cons (ps_set (i := 6) sc_Schemeu__initu_.nd rfl (Or.inl rfl) (pe_disp (pps_cons pe_str (pv 1) (pps_cons pe_str (pv 2) (pps_cons pe_str (pv 3) (pps_cons pe_str (pv 4) (pps_cons pe_str (pv 5) pps_nil))))) rfl rfl (by simp) (by decide)))
      (pss_cons (ps_set (i := 7) sc_Schemeu__initu_.nd rfl (Or.inl rfl) (pe_call (ok_first_wrong T) (hr.mono (by decide)) (by rfl) T.m_first_wrong T.F_first_wrong.kp T.b_first_wrong .nil pass0 (pa_cons (pv 6) pa_nil)))
      (pss_cons (ps_if (pt_cmpR op_notN (pv 7) pe_non (nomark _)) (pss_one ps_never) pss_nil)
      (pss_one (ps_fld (pv 0) (pv 6) rfl))))), ?_⟩
      try dsimp only [L2.cxOf, L2.Cx.nox, L2.Cx.wish]
      try rw [st_Schemeu__initu_]
      with_reducible refine Rd.seq (Rd.asg ?_)
      refine Rd.disp5 (fun _ _ h => Rd.var (by walk_at "vr") h) (fun _ _ h => Rd.var (by walk_at "vr") h) (fun _ _ h => Rd.var (by walk_at "vr") h) (fun _ _ h => Rd.var (by walk_at "vr") h) (fun _ _ h => Rd.var (by walk_at "vr") h) ?_
      intro pd222_16 npd222_16
      rw [kvP_merge]
      with_reducible refine Rd.name ?_
      try dsimp only [Int.reduceToNat, List.set]
      with_reducible refine Rd.seq (Rd.asg (Rd.call (Rd.cons (Rd.var (by walk_at "vr") (Rd.nil ?_)))))
      refine in_first_wrong (fun cdv Ar outer s hr => ?_) rfl
      have hu := hu_of hr
      refine ⟨_, (pss_cons (ps_for PassesOwn.never rfl (pi_tup (pe_glob (v := .ref A.t_PART_NAMES) rfl T.m_PART_NAMES rfl)) (pg_name (i := 1) sc_first_wrong.nd rfl (Or.inl rfl)) (pss_cons (ps_if (pt_not (pt_val (pe_call (ok_is_part T) (hr.mono (by decide)) (by rfl) T.m_is_part T.F_is_part.kp T.b_is_part .nil pass0 (pa_cons (pv 1) (pa_cons (pe_dget hu (pv 0) (pv 1) (fun _ _ => rfl)) pa_nil))))) (pss_one ps_never) pss_nil) (pss_one (ps_if (PW.pt (pw_and (pt_cmpR op_eq (pv 1) pe_str (nomark _)) (pw_and (pt_cmpR op_eq (pe_dget hu (pv 0) pe_str (fun _ _ => rfl)) pe_str (nomark _)) (pw_and1 Rd.ptN)))) (pss_one ps_never) pss_nil))))
            (pss_one (ps_ret pe_non))), ?_⟩
      try dsimp only [L2.cxOf, L2.Cx.nox, L2.Cx.wish]
      with_reducible refine Rd.seq (Rd.fr (Rd.it (Rd.c (⟨_, rfl, ?_⟩))))
      refine Rd.unrollT (by walk_at "hpt") ?_
      refine Rd.unrTCons ?_
      with_reducible refine Rd.name ?_
      dsimp only [List.set]
      with_reducible refine Rd.seq (Rd.ifS (Rd.not (Rd.tb (Rd.call (Rd.cons (Rd.var (by walk_at "vr") (Rd.cons (Rd.dget (Rd.var (by walk_at "vr") (Rd.var (by walk_at "vr") ?_))))))))))
      refine Rd.dget2 (by walk_at "hp") (by walk_at "dl") ?_
      with_reducible refine Rd.nil ?_
      refine in_is_part (fun cdv Ar outer s hr => ?_) rfl
      have hu := hu_of hr
      refine ⟨_, (pss_cons (ps_if (pt_cmpR op_eq (pv 0) pe_str (nomark _)) (pss_one (ps_ret (pe_call (ok_is_wrap T) (hr.mono (by decide)) (by rfl) T.m_is_wrap T.F_is_wrap.kp T.b_is_wrap .nil pass0 (pa_cons (pv 1) pa_nil)))) pss_nil)
            (pss_cons ps_never (pss_one ps_never))), ?_⟩
      try dsimp only [L2.cxOf, L2.Cx.nox, L2.Cx.wish]
      with_reducible refine Rd.seq (Rd.ifS (Rd.test (Rd.op (Rd.var (by walk_at "vr") (Rd.c (Rd.eqS (by walk_at "vr") (Rd.bl (Rd.iteT (by first | with_unfolding_all rfl | walk_at "bT") (Rd.ret (Rd.call (Rd.cons ?_)))))))))))
      with_reducible refine Rd.var (by walk_at "vr") (Rd.nil ?_)
      refine in_is_wrap (fun cdv Ar outer s hr => ?_) rfl
      have hu := hu_of hr
      refine ⟨_, (pss_one (ps_ret (pe_or (pe_call (ok_is_small_form T) (hr.mono (by decide)) (by rfl) T.m_is_small_form T.F_is_small_form.kp T.b_is_small_form .nil pass0 (pa_cons (pv 0) pa_nil)) (pe_one Rd.peN)))), ?_⟩
      try dsimp only [L2.cxOf, L2.Cx.nox, L2.Cx.wish]
      with_reducible refine Rd.ret (Rd.orV (Rd.call (Rd.cons (Rd.var (by walk_at "vr") (Rd.nil ?_)))))
      refine in_is_small_form (fun cdv Ar outer s hr => ?_) rfl
      have hu := hu_of hr
      refine ⟨_, (pss_cons (ps_if (pt_not (pt_val (pe_callB (Rd.isi (K := K) rfl) (by rfl) T.n_isinstance (by decide +kernel) (pa_cons (pv 0) (pa_cons (pe_glob (v := .ref A.c_Form) rfl T.m_Form rfl) pa_nil))))) (pss_one ps_never) pss_nil)
            (pss_one (ps_ret (pe_and (pe_chain op_le op_le pe_int (pe_fld (pv 0) rfl) (pe_glob (v := .int (4)) rfl T.m_GREATEST_SLOPE ⟨_, rfl⟩)) (pe_one (pe_chain op_le op_le (pe_un un_neg (pe_glob (v := .int (20)) rfl T.m_GREATEST_BASE ⟨_, rfl⟩)) (pe_fld (pv 0) rfl) (pe_glob (v := .int (20)) rfl T.m_GREATEST_BASE ⟨_, rfl⟩))))))), ?_⟩
      try dsimp only [L2.cxOf, L2.Cx.nox, L2.Cx.wish]
      with_reducible refine Rd.seq (Rd.ifS (Rd.not (Rd.tb (Rd.cB (Rd.cons (Rd.var (by walk_at "vr") (Rd.cons (Rd.c (Rd.nil ?_)))))))))
      refine ⟨_, _, _, _, _, rfl, (by walk_at "clsv"), (by walk_at "tyx"), (by walk_at "kit"), ?_⟩
      with_reducible refine Rd.bl (Rd.iteF (by first | with_unfolding_all rfl | walk_at "bF") (Rd.next (Rd.ret (Rd.andV (Rd.chain (Rd.c (Rd.fld (Rd.var (by walk_at "vr") (⟨_, _, _, _, _, rfl, (by walk_at "hp"), T.k_Form, T.n_Form_slope, (by walk_at "lk"), (Rd.i0 (Rd.bl ?_))⟩)))))))))
      with_reducible refine Rd.iteT (by walk_at "bT") (Rd.c (Rd.i0 (Rd.bl (Rd.iteT (by walk_at "bT") (Rd.chain (Rd.un (Rd.c (Rd.iU (Rd.fld (Rd.var (by walk_at "vr") (⟨_, _, _, _, _, rfl, (by walk_at "hp"), T.k_Form, T.n_Form_base, (by walk_at "lk"), ?_⟩)))))))))))
      with_reducible refine Rd.i0 (Rd.bl (Rd.iteT (by walk_at "bT") (Rd.c (Rd.i0 (Rd.bl (Rd.iteT (by first | with_unfolding_all rfl | walk_at "bT") (Rd.bl (Rd.iteF (by walk_at "bF") (Rd.next (Rd.ifS (Rd.and ?_)))))))))))
      with_reducible refine Rd.test (Rd.op (Rd.var (by walk_at "vr") (Rd.c (Rd.eqS (by walk_at "vr") (Rd.bl (Rd.iteF (by first | with_unfolding_all rfl | walk_at "bF") (Rd.iteF rfl (Rd.next ?_))))))))
      refine ⟨by walk_at "hpt", ?_⟩
      refine Rd.unrTCons ?_
      with_reducible refine Rd.name ?_
      dsimp only [List.set]
      with_reducible refine Rd.seq (Rd.ifS (Rd.not (Rd.tb (Rd.call (Rd.cons (Rd.var (by walk_at "vr") (Rd.cons (Rd.dget (Rd.var (by walk_at "vr") (Rd.var (by walk_at "vr") ?_))))))))))
      refine Rd.dget2 (by walk_at "hp") (by walk_at "dl") ?_
      with_reducible refine Rd.nil ?_
      refine in_is_part (fun cdv Ar outer s hr => ?_) rfl
      have hu := hu_of hr
      refine ⟨_, (pss_cons (ps_if (pt_cmpR op_eq (pv 0) pe_str (nomark _)) (pss_one ps_never) pss_nil)
            (pss_cons (ps_if (pt_cmpR op_eq (pv 0) pe_str (nomark _)) (pss_one ps_never) pss_nil)
            (pss_one (ps_ret (pe_call (ok_is_word_of T) (hr.mono (by decide)) (by rfl) T.m_is_word_of T.F_is_word_of.kp T.b_is_word_of .nil pass0 (pa_cons (pv 1) (pa_cons (pe_ix ix_kdict (pe_glob (v := .ref A.t_PART_WORDS) rfl T.m_PART_WORDS rfl) (pv 0) (fun _ _ => rfl)) pa_nil))))))), ?_⟩
      try dsimp only [L2.cxOf, L2.Cx.nox, L2.Cx.wish]
      with_reducible refine Rd.seq (Rd.ifS (Rd.test (Rd.op (Rd.var (by walk_at "vr") (Rd.c (Rd.eqS (by walk_at "vr") (Rd.bl (Rd.iteF (by first | with_unfolding_all rfl | walk_at "bF") (Rd.next (Rd.seq (Rd.ifS ?_)))))))))))
      with_reducible refine Rd.test (Rd.op (Rd.var (by walk_at "vr") (Rd.c (Rd.eqS (by walk_at "vr") (Rd.bl (Rd.iteF (by first | with_unfolding_all rfl | walk_at "bF") (Rd.next (Rd.ret (Rd.call (Rd.cons (Rd.var (by walk_at "vr") ?_)))))))))))
      with_reducible refine Rd.cons (Rd.op (Rd.c (Rd.var (by walk_at "vr") ?_)))
      refine ⟨_, _, _, rfl, rfl, T.d_PART_WORDS_slot, ?_⟩
      with_reducible refine Rd.nil ?_
      refine in_is_word_of (fun cdv Ar outer s hr => ?_) rfl
      have hu := hu_of hr
      refine ⟨_, (pss_one (ps_ret (pe_and (pe_callB (Rd.isi (K := K) rfl) (by rfl) T.n_isinstance (by decide +kernel) (pa_cons (pv 0) (pa_cons (pe_bltn (v := .ty "str") (u := .type "str") (by rfl) T.n_str (by decide +kernel) rfl) pa_nil))) (pe_one (pe_cmpR op_in_seq (pv 0) (pv 1) (by with_unfolding_all rfl)))))), ?_⟩
      try dsimp only [L2.cxOf, L2.Cx.nox, L2.Cx.wish]
      with_reducible refine Rd.ret (Rd.andV (Rd.cB (Rd.cons (Rd.var (by walk_at "vr") (Rd.cons (Rd.c (Rd.nil ?_)))))))
      refine ⟨_, _, _, _, _, rfl, (by walk_at "clsv"), (by walk_at "tyx"), (by walk_at "kit"), ?_⟩
      with_reducible refine Rd.bl (Rd.iteT (by first | with_unfolding_all rfl | walk_at "bT") (Rd.op (Rd.var (by walk_at "vr") (Rd.var (by walk_at "vr") ?_))))
      refine Rd.inT (.inr (by walk_at "hpt")) rfl (by walk_at "flt") ?_
      with_reducible refine Rd.bl (Rd.iteF (by walk_at "bF") (Rd.next (Rd.ifS (Rd.and (Rd.test (Rd.op (Rd.var (by walk_at "vr") (Rd.c (Rd.eqS (by walk_at "vr") (Rd.bl (Rd.iteT (by first | with_unfolding_all rfl | walk_at "bT") ?_)))))))))))
      with_reducible refine Rd.and (Rd.test (Rd.op (Rd.dget (Rd.var (by walk_at "vr") (Rd.c ?_)))))
      refine Rd.dget2 (by walk_at "hp") (by walk_at "dl") ?_
      with_reducible refine Rd.c (Rd.eqS (by walk_at "vr") (Rd.bl (Rd.iteF (by walk_at "bF") (Rd.iteF rfl (Rd.next ?_)))))
      refine ⟨by walk_at "hpt", ?_⟩
      refine Rd.unrTCons ?_
      with_reducible refine Rd.name ?_
      dsimp only [List.set]
      with_reducible refine Rd.seq (Rd.ifS (Rd.not (Rd.tb (Rd.call (Rd.cons (Rd.var (by walk_at "vr") (Rd.cons (Rd.dget (Rd.var (by walk_at "vr") (Rd.var (by walk_at "vr") ?_))))))))))
      refine Rd.dget2 (by walk_at "hp") (by walk_at "dl") ?_
      with_reducible refine Rd.nil ?_
      refine in_is_part (fun cdv Ar outer s hr => ?_) rfl
      have hu := hu_of hr
      refine ⟨_, (pss_cons (ps_if (pt_cmpR op_eq (pv 0) pe_str (nomark _)) (pss_one ps_never) pss_nil)
            (pss_cons (ps_if (pt_cmpR op_eq (pv 0) pe_str (nomark _)) (pss_one ps_never) pss_nil)
            (pss_one (ps_ret (pe_call (ok_is_word_of T) (hr.mono (by decide)) (by rfl) T.m_is_word_of T.F_is_word_of.kp T.b_is_word_of .nil pass0 (pa_cons (pv 1) (pa_cons (pe_ix ix_kdict (pe_glob (v := .ref A.t_PART_WORDS) rfl T.m_PART_WORDS rfl) (pv 0) (fun _ _ => rfl)) pa_nil))))))), ?_⟩
      try dsimp only [L2.cxOf, L2.Cx.nox, L2.Cx.wish]
      with_reducible refine Rd.seq (Rd.ifS (Rd.test (Rd.op (Rd.var (by walk_at "vr") (Rd.c (Rd.eqS (by walk_at "vr") (Rd.bl (Rd.iteF (by first | with_unfolding_all rfl | walk_at "bF") (Rd.next (Rd.seq (Rd.ifS ?_)))))))))))
      with_reducible refine Rd.test (Rd.op (Rd.var (by walk_at "vr") (Rd.c (Rd.eqS (by walk_at "vr") (Rd.bl (Rd.iteF (by first | with_unfolding_all rfl | walk_at "bF") (Rd.next (Rd.ret (Rd.call (Rd.cons (Rd.var (by walk_at "vr") ?_)))))))))))
      with_reducible refine Rd.cons (Rd.op (Rd.c (Rd.var (by walk_at "vr") ?_)))
      refine ⟨_, _, _, rfl, rfl, T.d_PART_WORDS_empty, ?_⟩
      with_reducible refine Rd.nil ?_
      refine in_is_word_of (fun cdv Ar outer s hr => ?_) rfl
      have hu := hu_of hr
      refine ⟨_, (pss_one (ps_ret (pe_and (pe_callB (Rd.isi (K := K) rfl) (by rfl) T.n_isinstance (by decide +kernel) (pa_cons (pv 0) (pa_cons (pe_bltn (v := .ty "str") (u := .type "str") (by rfl) T.n_str (by decide +kernel) rfl) pa_nil))) (pe_one (pe_cmpR op_in_seq (pv 0) (pv 1) (by with_unfolding_all rfl)))))), ?_⟩
      try dsimp only [L2.cxOf, L2.Cx.nox, L2.Cx.wish]
      with_reducible refine Rd.ret (Rd.andV (Rd.cB (Rd.cons (Rd.var (by walk_at "vr") (Rd.cons (Rd.c (Rd.nil ?_)))))))
      refine ⟨_, _, _, _, _, rfl, (by walk_at "clsv"), (by walk_at "tyx"), (by walk_at "kit"), ?_⟩
      with_reducible refine Rd.bl (Rd.iteT (by first | with_unfolding_all rfl | walk_at "bT") (Rd.op (Rd.var (by walk_at "vr") (Rd.var (by walk_at "vr") ?_))))
      refine Rd.inT (.inr (by walk_at "hpt")) rfl (by walk_at "flt") ?_
      with_reducible refine Rd.bl (Rd.iteF (by walk_at "bF") (Rd.next (Rd.ifS (Rd.and (Rd.test (Rd.op (Rd.var (by walk_at "vr") (Rd.c (Rd.eqS (by walk_at "vr") (Rd.bl (Rd.iteF (by first | with_unfolding_all rfl | walk_at "bF") ?_)))))))))))
      with_reducible refine Rd.iteF rfl (Rd.next ?_)
      refine ⟨by walk_at "hpt", ?_⟩
      refine Rd.unrTCons ?_
      with_reducible refine Rd.name ?_
      dsimp only [List.set]
      with_reducible refine Rd.seq (Rd.ifS (Rd.not (Rd.tb (Rd.call (Rd.cons (Rd.var (by walk_at "vr") (Rd.cons (Rd.dget (Rd.var (by walk_at "vr") (Rd.var (by walk_at "vr") ?_))))))))))
      refine Rd.dget2 (by walk_at "hp") (by walk_at "dl") ?_
      with_reducible refine Rd.nil ?_
      refine in_is_part (fun cdv Ar outer s hr => ?_) rfl
      have hu := hu_of hr
      refine ⟨_, (pss_cons (ps_if (pt_cmpR op_eq (pv 0) pe_str (nomark _)) (pss_one ps_never) pss_nil)
            (pss_cons (ps_if (pt_cmpR op_eq (pv 0) pe_str (nomark _)) (pss_one (ps_ret (pe_call (ok_is_full T) (hr.mono (by decide)) (by rfl) T.m_is_full T.F_is_full.kp T.b_is_full .nil pass0 (pa_cons (pv 1) pa_nil)))) pss_nil)
            (pss_one ps_never))), ?_⟩
      try dsimp only [L2.cxOf, L2.Cx.nox, L2.Cx.wish]
      with_reducible refine Rd.seq (Rd.ifS (Rd.test (Rd.op (Rd.var (by walk_at "vr") (Rd.c (Rd.eqS (by walk_at "vr") (Rd.bl (Rd.iteF (by first | with_unfolding_all rfl | walk_at "bF") (Rd.next (Rd.seq (Rd.ifS ?_)))))))))))
      with_reducible refine Rd.test (Rd.op (Rd.var (by walk_at "vr") (Rd.c (Rd.eqS (by walk_at "vr") (Rd.bl (Rd.iteT (by first | with_unfolding_all rfl | walk_at "bT") (Rd.ret (Rd.call (Rd.cons (Rd.var (by walk_at "vr") (Rd.nil ?_)))))))))))
      refine in_is_full (fun cdv Ar outer s hr => ?_) rfl
      have hu := hu_of hr
      refine ⟨_, (pss_cons (ps_if (pt_not (pt_val (pe_callB (Rd.isi (K := K) rfl) (by rfl) T.n_isinstance (by decide +kernel) (pa_cons (pv 0) (pa_cons (pe_bltn (v := .ty "tuple") (u := .type "tuple") (by rfl) T.n_tuple (by decide +kernel) rfl) pa_nil))))) (pss_one ps_never) pss_nil)
            (pss_cons (ps_if (pt_cmpR op_eq (pe_callB call_len_seq (by rfl) T.n_len PySem.boot_len (pa_cons (pv 0) pa_nil)) pe_int (nomark _)) (pss_one ps_never) pss_nil)
            (pss_cons (ps_if (pt_cmpR op_ne (pe_callB call_len_seq (by rfl) T.n_len PySem.boot_len (pa_cons (pv 0) pa_nil)) pe_int (nomark _)) (pss_one ps_never) pss_nil)
            (pss_one (ps_ret (pe_and (pe_call (ok_is_word_of T) (hr.mono (by decide)) (by rfl) T.m_is_word_of T.F_is_word_of.kp T.b_is_word_of .nil pass0 (pa_cons (pe_ix (Rd.ixTK rfl) (pv 0) pe_int (fun _ _ => rfl)) (pa_cons (pe_glob (v := .ref A.t_MEASURES) rfl T.m_MEASURES rfl) pa_nil))) (pe_and (pe_call (ok_is_word_of T) (hr.mono (by decide)) (by rfl) T.m_is_word_of T.F_is_word_of.kp T.b_is_word_of .nil pass0 (pa_cons (pe_ix (Rd.ixTK rfl) (pv 0) pe_int (fun _ _ => rfl)) (pa_cons (pe_glob (v := .ref A.t_SIGNS) rfl T.m_SIGNS rfl) pa_nil))) (pe_one (pe_call (ok_is_small_form T) (hr.mono (by decide)) (by rfl) T.m_is_small_form T.F_is_small_form.kp T.b_is_small_form .nil pass0 (pa_cons (pe_ix (Rd.ixTK rfl) (pv 0) pe_int (fun _ _ => rfl)) pa_nil)))))))))), ?_⟩
      try dsimp only [L2.cxOf, L2.Cx.nox, L2.Cx.wish]
      with_reducible refine Rd.seq (Rd.ifS (Rd.not (Rd.tb (Rd.cB (Rd.cons (Rd.var (by walk_at "vr") (Rd.cons (Rd.c (Rd.nil ?_)))))))))
      refine ⟨_, _, _, _, _, rfl, (by walk_at "clsv"), (by walk_at "tyx"), (by walk_at "kit"), ?_⟩
      with_reducible refine Rd.bl (Rd.iteF (by first | with_unfolding_all rfl | walk_at "bF") (Rd.next (Rd.seq (Rd.ifS (Rd.test (Rd.op (Rd.cB (Rd.cons (Rd.var (by walk_at "vr") (Rd.nil (⟨_, _, rfl, (by walk_at "hpq"), ?_⟩)))))))))))
      with_reducible refine Rd.c (Rd.eqS (by walk_at "vr") (Rd.bl (Rd.iteF (by first | with_unfolding_all rfl | walk_at "bF") (Rd.next (Rd.seq (Rd.ifS (Rd.test (Rd.op (Rd.cB (Rd.cons (Rd.var (by walk_at "vr") ?_)))))))))))
      with_reducible refine Rd.nil (⟨_, _, rfl, (by walk_at "hpq"), (Rd.c (Rd.neS (by walk_at "vr") (Rd.bl (Rd.iteF (by first | with_unfolding_all rfl | walk_at "bF") (Rd.next (Rd.ret (Rd.andV (Rd.call (Rd.cons (Rd.op ?_))))))))))⟩)
      with_reducible refine Rd.var (by walk_at "vr") (Rd.c (Rd.ixT (by walk_at "hpt") (by walk_at "vr") (Rd.cons (Rd.c (Rd.nil ?_)))))
      refine in_is_word_of (fun cdv Ar outer s hr => ?_) rfl
      have hu := hu_of hr
      refine ⟨_, (pss_one (ps_ret (pe_and (pe_callB (Rd.isi (K := K) rfl) (by rfl) T.n_isinstance (by decide +kernel) (pa_cons (pv 0) (pa_cons (pe_bltn (v := .ty "str") (u := .type "str") (by rfl) T.n_str (by decide +kernel) rfl) pa_nil))) (pe_one (pe_cmpR op_in_seq (pv 0) (pv 1) (by with_unfolding_all rfl)))))), ?_⟩
      try dsimp only [L2.cxOf, L2.Cx.nox, L2.Cx.wish]
      with_reducible refine Rd.ret (Rd.andV (Rd.cB (Rd.cons (Rd.var (by walk_at "vr") (Rd.cons (Rd.c (Rd.nil ?_)))))))
      refine ⟨_, _, _, _, _, rfl, (by walk_at "clsv"), (by walk_at "tyx"), (by walk_at "kit"), ?_⟩
      with_reducible refine Rd.bl (Rd.iteT (by first | with_unfolding_all rfl | walk_at "bT") (Rd.op (Rd.var (by walk_at "vr") (Rd.var (by walk_at "vr") ?_))))
      refine Rd.inT (.inr (by walk_at "hpt")) rfl (by walk_at "flt") ?_
      with_reducible refine Rd.bl (Rd.iteT (by walk_at "bT") (Rd.andV (Rd.call (Rd.cons (Rd.op (Rd.var (by walk_at "vr") (Rd.c (Rd.ixT (by walk_at "hpt") (by walk_at "vr") (Rd.cons (Rd.c (Rd.nil ?_)))))))))))
      refine in_is_word_of (fun cdv Ar outer s hr => ?_) rfl
      have hu := hu_of hr
      refine ⟨_, (pss_one (ps_ret (pe_and (pe_callB (Rd.isi (K := K) rfl) (by rfl) T.n_isinstance (by decide +kernel) (pa_cons (pv 0) (pa_cons (pe_bltn (v := .ty "str") (u := .type "str") (by rfl) T.n_str (by decide +kernel) rfl) pa_nil))) (pe_one (pe_cmpR op_in_seq (pv 0) (pv 1) (by with_unfolding_all rfl)))))), ?_⟩
      try dsimp only [L2.cxOf, L2.Cx.nox, L2.Cx.wish]
      with_reducible refine Rd.ret (Rd.andV (Rd.cB (Rd.cons (Rd.var (by walk_at "vr") (Rd.cons (Rd.c (Rd.nil ?_)))))))
      refine ⟨_, _, _, _, _, rfl, (by walk_at "clsv"), (by walk_at "tyx"), (by walk_at "kit"), ?_⟩
      with_reducible refine Rd.bl (Rd.iteT (by first | with_unfolding_all rfl | walk_at "bT") (Rd.op (Rd.var (by walk_at "vr") (Rd.var (by walk_at "vr") ?_))))
      refine Rd.inT (.inr (by walk_at "hpt")) rfl (by walk_at "flt") ?_
      with_reducible refine Rd.bl (Rd.iteT (by walk_at "bT") (Rd.call (Rd.cons (Rd.op (Rd.var (by walk_at "vr") (Rd.c (Rd.ixT (by walk_at "hpt") (by walk_at "vr") (Rd.nil ?_))))))))
      refine in_is_small_form (fun cdv Ar outer s hr => ?_) rfl
      have hu := hu_of hr
      refine ⟨_, (pss_cons (ps_if (pt_not (pt_val (pe_callB (Rd.isi (K := K) rfl) (by rfl) T.n_isinstance (by decide +kernel) (pa_cons (pv 0) (pa_cons (pe_glob (v := .ref A.c_Form) rfl T.m_Form rfl) pa_nil))))) (pss_one ps_never) pss_nil)
            (pss_one (ps_ret (pe_and (pe_chain op_le op_le pe_int (pe_fld (pv 0) rfl) (pe_glob (v := .int (4)) rfl T.m_GREATEST_SLOPE ⟨_, rfl⟩)) (pe_one (pe_chain op_le op_le (pe_un un_neg (pe_glob (v := .int (20)) rfl T.m_GREATEST_BASE ⟨_, rfl⟩)) (pe_fld (pv 0) rfl) (pe_glob (v := .int (20)) rfl T.m_GREATEST_BASE ⟨_, rfl⟩))))))), ?_⟩
      try dsimp only [L2.cxOf, L2.Cx.nox, L2.Cx.wish]
      with_reducible refine Rd.seq (Rd.ifS (Rd.not (Rd.tb (Rd.cB (Rd.cons (Rd.var (by walk_at "vr") (Rd.cons (Rd.c (Rd.nil ?_)))))))))
      refine ⟨_, _, _, _, _, rfl, (by walk_at "clsv"), (by walk_at "tyx"), (by walk_at "kit"), ?_⟩
      with_reducible refine Rd.bl (Rd.iteF (by first | with_unfolding_all rfl | walk_at "bF") (Rd.next (Rd.ret (Rd.andV (Rd.chain (Rd.c (Rd.fld (Rd.var (by walk_at "vr") (⟨_, _, _, _, _, rfl, (by walk_at "hp"), T.k_Form, T.n_Form_slope, (by walk_at "lk"), (Rd.i0 (Rd.bl ?_))⟩)))))))))
      with_reducible refine Rd.iteT (by walk_at "bT") (Rd.c (Rd.i0 (Rd.bl (Rd.iteT (by walk_at "bT") (Rd.chain (Rd.un (Rd.c (Rd.iU (Rd.fld (Rd.var (by walk_at "vr") (⟨_, _, _, _, _, rfl, (by walk_at "hp"), T.k_Form, T.n_Form_base, (by walk_at "lk"), ?_⟩)))))))))))
      with_reducible refine Rd.i0 (Rd.bl (Rd.iteT (by walk_at "bT") (Rd.c (Rd.i0 (Rd.bl (Rd.iteF (by walk_at "bF") (Rd.next (Rd.ifS (Rd.and (Rd.test (Rd.op ?_)))))))))))
      with_reducible refine Rd.var (by walk_at "vr") (Rd.c (Rd.eqS (by walk_at "vr") (Rd.bl (Rd.iteF (by first | with_unfolding_all rfl | walk_at "bF") (Rd.iteF rfl (Rd.next ?_))))))
      refine ⟨by walk_at "hpt", ?_⟩
      refine Rd.unrTCons ?_
      with_reducible refine Rd.name ?_
      dsimp only [List.set]
      with_reducible refine Rd.seq (Rd.ifS (Rd.not (Rd.tb (Rd.call (Rd.cons (Rd.var (by walk_at "vr") (Rd.cons (Rd.dget (Rd.var (by walk_at "vr") (Rd.var (by walk_at "vr") ?_))))))))))
      refine Rd.dget2 (by walk_at "hp") (by walk_at "dl") ?_
      with_reducible refine Rd.nil ?_
      refine in_is_part (fun cdv Ar outer s hr => ?_) rfl
      have hu := hu_of hr
      refine ⟨_, (pss_cons (ps_if (pt_cmpR op_eq (pv 0) pe_str (nomark _)) (pss_one ps_never) pss_nil)
            (pss_cons (ps_if (pt_cmpR op_eq (pv 0) pe_str (nomark _)) (pss_one ps_never) pss_nil)
            (pss_one (ps_ret (pe_call (ok_is_word_of T) (hr.mono (by decide)) (by rfl) T.m_is_word_of T.F_is_word_of.kp T.b_is_word_of .nil pass0 (pa_cons (pv 1) (pa_cons (pe_ix ix_kdict (pe_glob (v := .ref A.t_PART_WORDS) rfl T.m_PART_WORDS rfl) (pv 0) (fun _ _ => rfl)) pa_nil))))))), ?_⟩
      try dsimp only [L2.cxOf, L2.Cx.nox, L2.Cx.wish]
      with_reducible refine Rd.seq (Rd.ifS (Rd.test (Rd.op (Rd.var (by walk_at "vr") (Rd.c (Rd.eqS (by walk_at "vr") (Rd.bl (Rd.iteF (by first | with_unfolding_all rfl | walk_at "bF") (Rd.next (Rd.seq (Rd.ifS ?_)))))))))))
      with_reducible refine Rd.test (Rd.op (Rd.var (by walk_at "vr") (Rd.c (Rd.eqS (by walk_at "vr") (Rd.bl (Rd.iteF (by first | with_unfolding_all rfl | walk_at "bF") (Rd.next (Rd.ret (Rd.call (Rd.cons (Rd.var (by walk_at "vr") ?_)))))))))))
      with_reducible refine Rd.cons (Rd.op (Rd.c (Rd.var (by walk_at "vr") ?_)))
      refine ⟨_, _, _, rfl, rfl, T.d_PART_WORDS_when, ?_⟩
      with_reducible refine Rd.nil ?_
      refine in_is_word_of (fun cdv Ar outer s hr => ?_) rfl
      have hu := hu_of hr
      refine ⟨_, (pss_one (ps_ret (pe_and (pe_callB (Rd.isi (K := K) rfl) (by rfl) T.n_isinstance (by decide +kernel) (pa_cons (pv 0) (pa_cons (pe_bltn (v := .ty "str") (u := .type "str") (by rfl) T.n_str (by decide +kernel) rfl) pa_nil))) (pe_one (pe_cmpR op_in_seq (pv 0) (pv 1) (by with_unfolding_all rfl)))))), ?_⟩
      try dsimp only [L2.cxOf, L2.Cx.nox, L2.Cx.wish]
      with_reducible refine Rd.ret (Rd.andV (Rd.cB (Rd.cons (Rd.var (by walk_at "vr") (Rd.cons (Rd.c (Rd.nil ?_)))))))
      refine ⟨_, _, _, _, _, rfl, (by walk_at "clsv"), (by walk_at "tyx"), (by walk_at "kit"), ?_⟩
      with_reducible refine Rd.bl (Rd.iteT (by first | with_unfolding_all rfl | walk_at "bT") (Rd.op (Rd.var (by walk_at "vr") (Rd.var (by walk_at "vr") ?_))))
      refine Rd.inT (.inr (by walk_at "hpt")) rfl (by walk_at "flt") ?_
      with_reducible refine Rd.bl (Rd.iteF (by walk_at "bF") (Rd.next (Rd.ifS (Rd.and (Rd.test (Rd.op (Rd.var (by walk_at "vr") (Rd.c (Rd.eqS (by walk_at "vr") (Rd.bl (Rd.iteF (by first | with_unfolding_all rfl | walk_at "bF") ?_)))))))))))
      with_reducible refine Rd.iteF rfl (Rd.next ?_)
      refine ⟨by walk_at "hpt", ?_⟩
      refine Rd.unrTNil ?_
      with_reducible refine Rd.ret (Rd.c (Rd.name ?_))
      try dsimp only [Int.reduceToNat, List.set]
      with_reducible refine Rd.seq (Rd.ifS (Rd.test (Rd.op (Rd.var (by walk_at "vr") (Rd.c (⟨rfl, (Rd.bl (Rd.iteF (by first | with_unfolding_all rfl | walk_at "bF") (Rd.next (Rd.sfld (Rd.var (by walk_at "vr") ?_)))))⟩))))))
      with_reducible refine Rd.var (by walk_at "vr") (⟨_, _, _, _, rfl, (by walk_at "hp"), T.k_Scheme, T.n_Scheme_parts, (by walk_at "sfl"), ?_⟩)
      rw [fS_put]
      exact k _ _ (by walk_at "frm") (by assumption) L2.upd_same (by walk_at "hp")
/-! _law_mixed -/
theorem sc_l_mixed : FnScope ["_law_number", "_law_place", "_law_many", "_law_first", "_law_second"] ["_law_number", "_law_place", "_law_many"] (defScope s_l_mixed) := ⟨rfl, rfl, rfl, by decide +kernel, rfl, by decide +kernel, by decide +kernel⟩
abbrev sp_l_mixed (K : PySem.W.Frag) (A : Adr) : Sp := fun vs H Q _ => ∃ i j m : Int, vs = [.int i, .int j, .int m] ∧ 0 < m ∧ m < 2 ^ 190 ∧ ∀ d, 0 ≤ d → d < m → Q (.int d) H
theorem ok_l_mixed (T : Txt w K mg A) : FnOk P w K mg base CX0 1 A.f_l_mixed A.d_l_mixed ["_law_number", "_law_place", "_law_many"] (sp_l_mixed K A) := by
  refine T.F_l_mixed.ok sc_l_mixed (fun vs H Q E h => ?_) (fun cdv Ar outer s H vs Q E hr h => ?_)
  · obtain ⟨i, j, m, rfl, m1, m2, k⟩ := h
    rfl
  · obtain ⟨i, j, m, rfl, m1, m2, k⟩ := h
    have hu := hu_of hr
    have t_q_PART_NAMES := T.q_PART_NAMES
    have t_q_PART_WORDS_slot := T.q_PART_WORDS_slot
    have t_d_PART_WORDS_slot := T.d_PART_WORDS_slot
    have t_q_PART_WORDS_empty := T.q_PART_WORDS_empty
    have t_d_PART_WORDS_empty := T.d_PART_WORDS_empty
    have t_q_PART_WORDS_when := T.q_PART_WORDS_when
    have t_d_PART_WORDS_when := T.d_PART_WORDS_when
    have t_q_MEASURES := T.q_MEASURES
    have t_q_SIGNS := T.q_SIGNS
    have t_q_PLAIN_FULLS := T.q_PLAIN_FULLS
    have t_i_Form := T.i_Form
    have t_kt_Form_Form := T.kt_Form_Form
    have t_kt_int_Form := T.kt_int_Form
    have t_nf_Form_Form := T.nf_Form_Form
    have t_nf_int_Form := T.nf_int_Form
    have t_xm_NoSize_NoSize := T.xm_NoSize_NoSize
    have t_xm_NoRing_NoSize := T.xm_NoRing_NoSize
    have t_xm_NoRing_NoRing := T.xm_NoRing_NoRing
    have t_xm_NotDecided_NoSize := T.xm_NotDecided_NoSize
    have t_xm_NotDecided_NoRing := T.xm_NotDecided_NoRing
    have t_xm_NotDecided_NotDecided := T.xm_NotDecided_NotDecided
    have t_xm_NoLag_NoSize := T.xm_NoLag_NoSize
    have t_xm_NoLag_NoRing := T.xm_NoLag_NoRing
    have t_xm_NoLag_NotDecided := T.xm_NoLag_NotDecided
    have t_xm_NoLag_NoLag := T.xm_NoLag_NoLag
    have t_xm_Outside_Outside := T.xm_Outside_Outside
    have t_k_Form := T.k_Form
    have t_k_Scheme := T.k_Scheme
    have t_k_Log := T.k_Log
    refine ⟨_, (pss_cons (ps_set (i := 3) sc_l_mixed.nd rfl (Or.inl rfl) (pe_op op_mod (pe_callTy call_int1 (by rfl) T.n_int (by decide +kernel) (pa_cons (pe_op op_add (pe_op op_add (pe_op op_mul (pv 0) pe_int) (pe_op op_mul (pv 1) pe_int)) pe_int) pa_nil)) pe_int))
      (pss_cons (ps_set (i := 4) sc_l_mixed.nd rfl (Or.inl rfl) (pe_op op_mod (pe_callTy call_int1 (by rfl) T.n_int (by decide +kernel) (pa_cons (pe_op op_add (pe_op op_add (pe_op op_mul (pv 3) pe_int) (pe_op op_mul (pv 1) pe_int)) pe_int) pa_nil)) pe_int))
      (pss_one (ps_ret (pe_op op_mod (pe_callTy call_int1 (by rfl) T.n_int (by decide +kernel) (pa_cons (pv 4) pa_nil)) (pv 2)))))), ?_⟩
    try dsimp only [L2.cxOf, L2.Cx.nox, L2.Cx.wish]
    with_reducible refine Rd.seq (Rd.asg (Rd.op (Rd.cB (Rd.cons (Rd.op (Rd.op (Rd.op (Rd.var (by walk_at "vr") (Rd.c ?_)))))))))
    refine Rd.iC (Or.inr (by decide)) ?_
    with_reducible refine Rd.op (Rd.var (by walk_at "vr") (Rd.c ?_))
    refine Rd.iC (Or.inr (by decide)) ?_
    with_reducible refine Rd.i0 (Rd.c (Rd.i0 (Rd.nil ((.inl ⟨_, rfl, (Rd.c (Rd.iC (by walk_at "sc") (Rd.name (Rd.seq (Rd.asg (Rd.op (Rd.cB ?_)))))))⟩)))))
    with_reducible refine Rd.cons (Rd.op (Rd.op (Rd.op (Rd.var (by walk_at "vr") (Rd.c ?_)))))
    refine Rd.iC (Or.inr (by decide)) ?_
    with_reducible refine Rd.op (Rd.var (by walk_at "vr") (Rd.c ?_))
    refine Rd.iC (Or.inr (by decide)) ?_
    with_reducible refine Rd.i0 (Rd.c (Rd.i0 (Rd.nil ((.inl ⟨_, rfl, (Rd.c (Rd.iC (by walk_at "sc") (Rd.name (Rd.ret (Rd.op (Rd.cB (Rd.cons ?_)))))))⟩)))))
    with_reducible refine Rd.var (by walk_at "vr") (Rd.nil ((.inl ⟨_, rfl, (Rd.var (by walk_at "vr") (Rd.iC (by walk_at "sc") ?_))⟩)))
    exact k _ (Int.emod_nonneg _ (by omega)) (Int.emod_lt_of_pos _ m1)
/-! _law_pool -/
theorem sc_l_pool : FnScope ["_law_script", "_law_cell"] ["_law_script"] (defScope s_l_pool) := ⟨rfl, rfl, rfl, by decide +kernel, rfl, by decide +kernel, by decide +kernel⟩
abbrev sp_l_pool (K : PySem.W.Frag) (A : Adr) : Sp := fun vs H Q _ => ∃ (a : Addr) (ns : List Int), vs = [.ref a] ∧ SqL K H a (ns.map V.int) ∧ ns.length ≤ 63 ∧ ∀ (p : Addr) (o : HO) (H' : Hp), Same H H' → H p = none → H' p = some o → PoolO H' p o → Q (.ref p) H'
theorem ok_l_pool (T : Txt w K mg A) : FnOk P w K mg base CX0 1 A.f_l_pool A.d_l_pool ["_law_script"] (sp_l_pool K A) := by
  refine T.F_l_pool.ok sc_l_pool (fun vs H Q E h => ?_) (fun cdv Ar outer s H vs Q E hr h => ?_)
  · obtain ⟨a, ns, rfl, hl, hn, k⟩ := h
    rfl
  · obtain ⟨a, ns, rfl, hl, hn, k⟩ := h
    have hu := hu_of hr
    have t_q_PART_NAMES := T.q_PART_NAMES
    have t_q_PART_WORDS_slot := T.q_PART_WORDS_slot
    have t_d_PART_WORDS_slot := T.d_PART_WORDS_slot
    have t_q_PART_WORDS_empty := T.q_PART_WORDS_empty
    have t_d_PART_WORDS_empty := T.d_PART_WORDS_empty
    have t_q_PART_WORDS_when := T.q_PART_WORDS_when
    have t_d_PART_WORDS_when := T.d_PART_WORDS_when
    have t_q_MEASURES := T.q_MEASURES
    have t_q_SIGNS := T.q_SIGNS
    have t_q_PLAIN_FULLS := T.q_PLAIN_FULLS
    have t_i_Form := T.i_Form
    have t_kt_Form_Form := T.kt_Form_Form
    have t_kt_int_Form := T.kt_int_Form
    have t_nf_Form_Form := T.nf_Form_Form
    have t_nf_int_Form := T.nf_int_Form
    have t_xm_NoSize_NoSize := T.xm_NoSize_NoSize
    have t_xm_NoRing_NoSize := T.xm_NoRing_NoSize
    have t_xm_NoRing_NoRing := T.xm_NoRing_NoRing
    have t_xm_NotDecided_NoSize := T.xm_NotDecided_NoSize
    have t_xm_NotDecided_NoRing := T.xm_NotDecided_NoRing
    have t_xm_NotDecided_NotDecided := T.xm_NotDecided_NotDecided
    have t_xm_NoLag_NoSize := T.xm_NoLag_NoSize
    have t_xm_NoLag_NoRing := T.xm_NoLag_NoRing
    have t_xm_NoLag_NotDecided := T.xm_NoLag_NotDecided
    have t_xm_NoLag_NoLag := T.xm_NoLag_NoLag
    have t_xm_Outside_Outside := T.xm_Outside_Outside
    have t_k_Form := T.k_Form
    have t_k_Scheme := T.k_Scheme
    have t_k_Log := T.k_Log
    refine ⟨_, (pss_one (ps_ret (pe_lst (pa_cons (pe_lc (own := [("_law_cell", 1)]) (g := gName 1) rfl sc_l_pool.nd (pi_list (pv 0)) (blkOk_by (own := [("_law_cell", 1)]) (N := ["_law_script", "_law_cell"]) (sc := defScope s_l_pool) (by decide +kernel)) (fun _ _ _ _ _ => pg_name (i := 1) sc_l_pool.nd rfl (Or.inl rfl)) (fun _ _ _ _ _ => pts_nil) (fun _ _ _ _ _ => (pe_callTy call_int1 (by rfl) T.n_int (by decide +kernel) (pa_cons (pv 1) pa_nil)))) (pa_cons pe_int (pa_cons pe_int (pa_cons pe_int (pa_cons (pe_un un_neg pe_int) pa_nil)))))))), ?_⟩
    try dsimp only [L2.cxOf, L2.Cx.nox, L2.Cx.wish]
    with_reducible refine Rd.ret (Rd.lst (Rd.cons ?_))
    refine Rd.lcVarI (g := fun n => n) (ns := ns) (by walk_at "vr") (by walk_at "hpl") (by omega) (by intro _; rfl) (fun n hnn H1 S1 R1 k1 => ?lca1) (fun p1 H1 np1 S1 hp1 => ?_)
    case lca1 =>
      skip
      with_reducible refine Rd.cB (Rd.cons (Rd.var (by walk_at "vr") (Rd.nil ((.inl ⟨_, rfl, ?_⟩)))))
      exact k1 _ (Same.refl _)
    rotate_left 0
    with_reducible refine Rd.cons (Rd.c (Rd.cons (Rd.c (Rd.cons (Rd.c (Rd.cons (Rd.un (Rd.c (Rd.iU (Rd.nil (Rd.laid (by walk_at "ll") ?_)))))))))))
    intro p0 np0
    exact k _ _ _ (by walk_at "frm") (by walk_at "nn") L2.upd_same (.put (by walk_at "hp") (by walk_at "ne") (Int.le_refl 0))
/-! _law_draw -/
theorem sc_l_draw : FnScope ["_law_pool_here", "_law_many", "_law_cells", "_law_cell", "_law_told", "_law_last"] ["_law_pool_here", "_law_many"] (defScope s_l_draw) := ⟨rfl, rfl, rfl, by decide +kernel, rfl, by decide +kernel, by decide +kernel⟩
abbrev sp_l_draw (K : PySem.W.Frag) (A : Adr) : Sp := fun vs H Q _ => ∃ (a : Addr) (o : HO) (m : Int), vs = [.ref a, .int m] ∧ H a = some o ∧ PoolO H a o ∧ 0 < m ∧ m < 2 ^ 190 ∧ ∀ (d : Int) (o' : HO), 0 ≤ d → d < m → PoolO (upd H a o') a o' → Q (.int d) (upd H a o')
theorem ok_l_draw (T : Txt w K mg A) : FnOk P w K mg base CX0 2 A.f_l_draw A.d_l_draw ["_law_pool_here", "_law_many"] (sp_l_draw K A) := by
  refine T.F_l_draw.ok sc_l_draw (fun vs H Q E h => ?_) (fun cdv Ar outer s H vs Q E hr h => ?_)
  · obtain ⟨a, o, m, rfl, ha, ⟨l, ns, i, u, c, g, rfl, hl, hne, i0⟩, m1, m2, k⟩ := h
    rfl
  · obtain ⟨a, o, m, rfl, ha, ⟨l, ns, i, u, c, g, rfl, hl, hne, i0⟩, m1, m2, k⟩ := h
    have hu := hu_of hr
    have t_q_PART_NAMES := T.q_PART_NAMES
    have t_q_PART_WORDS_slot := T.q_PART_WORDS_slot
    have t_d_PART_WORDS_slot := T.d_PART_WORDS_slot
    have t_q_PART_WORDS_empty := T.q_PART_WORDS_empty
    have t_d_PART_WORDS_empty := T.d_PART_WORDS_empty
    have t_q_PART_WORDS_when := T.q_PART_WORDS_when
    have t_d_PART_WORDS_when := T.d_PART_WORDS_when
    have t_q_MEASURES := T.q_MEASURES
    have t_q_SIGNS := T.q_SIGNS
    have t_q_PLAIN_FULLS := T.q_PLAIN_FULLS
    have t_i_Form := T.i_Form
    have t_kt_Form_Form := T.kt_Form_Form
    have t_kt_int_Form := T.kt_int_Form
    have t_nf_Form_Form := T.nf_Form_Form
    have t_nf_int_Form := T.nf_int_Form
    have t_xm_NoSize_NoSize := T.xm_NoSize_NoSize
    have t_xm_NoRing_NoSize := T.xm_NoRing_NoSize
    have t_xm_NoRing_NoRing := T.xm_NoRing_NoRing
    have t_xm_NotDecided_NoSize := T.xm_NotDecided_NoSize
    have t_xm_NotDecided_NoRing := T.xm_NotDecided_NoRing
    have t_xm_NotDecided_NotDecided := T.xm_NotDecided_NotDecided
    have t_xm_NoLag_NoSize := T.xm_NoLag_NoSize
    have t_xm_NoLag_NoRing := T.xm_NoLag_NoRing
    have t_xm_NoLag_NotDecided := T.xm_NoLag_NotDecided
    have t_xm_NoLag_NoLag := T.xm_NoLag_NoLag
    have t_xm_Outside_Outside := T.xm_Outside_Outside
    have t_k_Form := T.k_Form
    have t_k_Scheme := T.k_Scheme
    have t_k_Log := T.k_Log
    have g1 := Int.emod_nonneg g (show m ≠ 0 by omega)
    have g2 := Int.emod_lt_of_pos g m1
    refine ⟨_, (pss_cons (ps_set (i := 2) sc_l_draw.nd rfl (Or.inl rfl) (pe_ix (Rd.ixLK rfl) (pv 0) pe_int (fun _ _ => rfl)))
      (pss_cons (ps_asg (pe_op op_add (pe_ix (Rd.ixLK rfl) (pv 0) pe_int (fun _ _ => rfl)) pe_int) (pg_sub (pv 0) pe_int set_list))
      (pss_cons (ps_if (pt_cmpR op_ge (pe_ix (Rd.ixLK rfl) (pv 0) pe_int (fun _ _ => rfl)) (pe_callB call_len_seq (by rfl) T.n_len PySem.boot_len (pa_cons (pv 2) pa_nil)) (nomark _)) (pss_one (ps_ret (pe_call (ok_l_mixed T) (hr.mono (by decide)) (by rfl) T.m_l_mixed T.F_l_mixed.kp T.b_l_mixed .nil pass0 (pa_cons (pe_op op_add (pe_op op_mul (pe_ix (Rd.ixLK rfl) (pv 0) pe_int (fun _ _ => rfl)) pe_int) (pe_callB call_len_seq (by rfl) T.n_len PySem.boot_len (pa_cons (pv 2) pa_nil))) (pa_cons (pe_ix (Rd.ixLK rfl) (pv 0) pe_int (fun _ _ => rfl)) (pa_cons (pv 1) pa_nil)))))) pss_nil)
      (pss_cons (ps_set (i := 3) sc_l_draw.nd rfl (Or.inl rfl) (pe_ix (Rd.ixLK rfl) (pv 2) (pe_ix (Rd.ixLK rfl) (pv 0) pe_int (fun _ _ => rfl)) (fun _ _ => rfl)))
      (pss_cons (ps_asg (pe_op op_add (pe_ix (Rd.ixLK rfl) (pv 0) pe_int (fun _ _ => rfl)) pe_int) (pg_sub (pv 0) pe_int set_list))
      (pss_cons (ps_if (PW.pt (pw_and (pt_cmpR op_lt (pe_ix (Rd.ixLK rfl) (pv 0) pe_int (fun _ _ => rfl)) pe_int (nomark _)) (pw_and1 (pt_cmpR op_ge (pv 3) (pe_op op_pow pe_int pe_int) (nomark _))))) (pss_one (ps_asg (pv 3) (pg_sub (pv 0) pe_int set_list))) pss_nil)
      (pss_cons (ps_if (pt_cmpR op_lt (pe_ix (Rd.ixLK rfl) (pv 0) pe_int (fun _ _ => rfl)) pe_int (nomark _)) (pss_cons (ps_set (i := 4) sc_l_draw.nd rfl (Or.inl rfl) (pe_call (ok_l_mixed T) (hr.mono (by decide)) (by rfl) T.m_l_mixed T.F_l_mixed.kp T.b_l_mixed .nil pass0 (pa_cons (pv 3) (pa_cons (pe_ix (Rd.ixLK rfl) (pv 0) pe_int (fun _ _ => rfl)) (pa_cons (pv 1) pa_nil))))) (pss_one (ps_set (i := 5) sc_l_draw.nd rfl (Or.inl rfl) pe_int))) (pss_cons (ps_set (i := 4) sc_l_draw.nd rfl (Or.inl rfl) (pe_op op_mod (pe_callTy call_int1 (by rfl) T.n_int (by decide +kernel) (pa_cons (pe_ix (Rd.ixLK rfl) (pv 0) pe_int (fun _ _ => rfl)) pa_nil)) (pv 1))) (pss_cons (ps_asg (pe_op op_fdivW (pe_ix (Rd.ixLK rfl) (pv 0) pe_int (fun _ _ => rfl)) (pv 1)) (pg_sub (pv 0) pe_int set_list)) (pss_one (ps_set (i := 5) sc_l_draw.nd rfl (Or.inl rfl) pe_int))))) (pss_cons (ps_if (PW.pt (pw_or (pt_cmpR op_ge (pe_ix (Rd.ixLK rfl) (pv 0) pe_int (fun _ _ => rfl)) (pv 5) (nomark _)) (pw_or1 (pt_cmpR op_eq (pe_ix (Rd.ixLK rfl) (pv 0) pe_int (fun _ _ => rfl)) pe_int (nomark _))))) (pss_cons (ps_asg (pe_op op_add (pe_ix (Rd.ixLK rfl) (pv 0) pe_int (fun _ _ => rfl)) pe_int) (pg_sub (pv 0) pe_int set_list)) (pss_cons (ps_asg pe_int (pg_sub (pv 0) pe_int set_list)) (pss_one (ps_asg (pe_un un_neg pe_int) (pg_sub (pv 0) pe_int set_list))))) pss_nil) (pss_one (ps_ret (pv 4))))))))))), ?_⟩
    try dsimp only [L2.cxOf, L2.Cx.nox, L2.Cx.wish]
    with_reducible refine Rd.seq (Rd.asg (Rd.op (Rd.var (by walk_at "vr") (Rd.c (Rd.ixL (by walk_at "hpl") (by walk_at "vr") (Rd.name (Rd.seq (Rd.asg (Rd.op (Rd.op (Rd.var (by walk_at "vr") ?_)))))))))))
    with_reducible refine Rd.c (Rd.ixL (by walk_at "hpl") (by walk_at "vr") (Rd.c (Rd.i0 (Rd.sub (Rd.var (by walk_at "vr") (Rd.c (Rd.setL (by walk_at "hp") (by walk_at "ixn") (Rd.seq (Rd.ifS (Rd.test (Rd.op ?_)))))))))))
    with_reducible refine Rd.op (Rd.var (by walk_at "vr") (Rd.c (Rd.ixL (by walk_at "hpl") (by walk_at "vr") (Rd.cB (Rd.cons (Rd.var (by walk_at "vr") (Rd.nil (⟨_, _, rfl, (by walk_at "hpq"), (Rd.i0 (Rd.bl ?_))⟩))))))))
    refine Rd.ite (fun h0 => ?_) (fun h0 => ?_)
    · try simp only [decide_eq_true_eq, Bool.not_eq_true', decide_eq_false_iff_not, Bool.not_eq_true, Bool.not_eq_eq_eq_not, Bool.not_true, Bool.not_false] at h0
      with_reducible refine Rd.ret (Rd.call (Rd.cons (Rd.op (Rd.op (Rd.op (Rd.var (by walk_at "vr") (Rd.c (Rd.ixL (by walk_at "hpl") (by walk_at "vr") (Rd.c ?_)))))))))
      refine Rd.iC (Or.inr (by decide)) ?_
      with_reducible refine Rd.cB (Rd.cons (Rd.var (by walk_at "vr") (Rd.nil (⟨_, _, rfl, (by walk_at "hpq"), (Rd.i0 (Rd.cons (Rd.op (Rd.var (by walk_at "vr") (Rd.c (Rd.ixL (by walk_at "hpl") (by walk_at "vr") (Rd.cons ?_)))))))⟩))))
      with_reducible refine Rd.var (by walk_at "vr") (Rd.nil ?_)
      refine ⟨_, _, _, rfl, (by walk_at "sc"), (by walk_at "sc"), fun d1 d1a d1b => ?_⟩
      (repeat rw [L2.upd_upd])
      first
        | exact k _ _ (by assumption) (by assumption) (.put hl hne i0)
        | exact k _ _ (by assumption) (by assumption) (.put hl hne (by omega))
    · try simp only [decide_eq_true_eq, Bool.not_eq_true', decide_eq_false_iff_not, Bool.not_eq_true, Bool.not_eq_eq_eq_not, Bool.not_true, Bool.not_false, Int.not_lt, Int.not_le, Decidable.not_not] at h0
      with_reducible refine Rd.next (Rd.seq (Rd.asg (Rd.op (Rd.var (by walk_at "vr") (Rd.op (Rd.var (by walk_at "vr") (Rd.c (Rd.ixL (by walk_at "hpl") (by walk_at "vr") ?_))))))))
      obtain ⟨z, hz⟩ := atI_map i0 (by simpa using h0)
      have z1 := Int.emod_nonneg z (show m ≠ 0 by omega)
      have z2 := Int.emod_lt_of_pos z m1
      refine Rd.ixL (by walk_at "hpl") hz ?_
      with_reducible refine Rd.name (Rd.seq (Rd.asg (Rd.op (Rd.op (Rd.var (by walk_at "vr") (Rd.c (Rd.ixL (by walk_at "hpl") (by walk_at "vr") (Rd.c (Rd.i0 (Rd.sub (Rd.var (by walk_at "vr") ?_)))))))))))
      with_reducible refine Rd.c (Rd.setL (by walk_at "hp") (by walk_at "ixn") (Rd.seq (Rd.ifS (Rd.and (Rd.test (Rd.op (Rd.op (Rd.var (by walk_at "vr") (Rd.c (Rd.ixL (by walk_at "hpl") (by walk_at "vr") (Rd.c ?_)))))))))))
      with_reducible refine Rd.i0 (Rd.bl ?_)
      refine Rd.ite (fun h1 => ?_) (fun h1 => ?_)
      · try simp only [decide_eq_true_eq, Bool.not_eq_true', decide_eq_false_iff_not, Bool.not_eq_true, Bool.not_eq_eq_eq_not, Bool.not_true, Bool.not_false] at h1
        with_reducible refine Rd.test (Rd.op (Rd.var (by walk_at "vr") (Rd.op (Rd.c (Rd.c (Rd.iC (by walk_at "scp") (Rd.i0 (Rd.bl ?_))))))))
        refine Rd.ite (fun h2 => ?_) (fun h2 => ?_)
        · try simp only [decide_eq_true_eq, Bool.not_eq_true', decide_eq_false_iff_not, Bool.not_eq_true, Bool.not_eq_eq_eq_not, Bool.not_true, Bool.not_false] at h2
          with_reducible refine Rd.asg (Rd.var (by walk_at "vr") (Rd.sub (Rd.var (by walk_at "vr") (Rd.c (Rd.setL (by walk_at "hp") (by walk_at "ixn") (Rd.seq (Rd.ifS (Rd.test (Rd.op (Rd.op (Rd.var (by walk_at "vr") ?_)))))))))))
          with_reducible refine Rd.c (Rd.ixL (by walk_at "hpl") (by walk_at "vr") (Rd.c (Rd.i0 (Rd.bl ?_))))
          refine Rd.ite (fun h3 => ?_) (fun h3 => ?_)
          · try simp only [decide_eq_true_eq, Bool.not_eq_true', decide_eq_false_iff_not, Bool.not_eq_true, Bool.not_eq_eq_eq_not, Bool.not_true, Bool.not_false] at h3
            with_reducible refine Rd.seq (Rd.asg (Rd.call (Rd.cons (Rd.var (by walk_at "vr") (Rd.cons (Rd.op (Rd.var (by walk_at "vr") (Rd.c (Rd.ixL (by walk_at "hpl") (by walk_at "vr") (Rd.cons (Rd.var (by walk_at "vr") ?_)))))))))))
            with_reducible refine Rd.nil ?_
            refine ⟨_, _, _, rfl, (by walk_at "sc"), (by walk_at "sc"), fun d2 d2a d2b => ?_⟩
            with_reducible refine Rd.name (Rd.asg (Rd.c (Rd.name (Rd.seq (Rd.ifS (Rd.or (Rd.test (Rd.op (Rd.op (Rd.var (by walk_at "vr") (Rd.c ?_)))))))))))
            with_reducible refine Rd.ixL (by walk_at "hpl") (by walk_at "vr") (Rd.var (by walk_at "vr") (Rd.i0 (Rd.bl ?_)))
            refine Rd.ite (fun h4 => ?_) (fun h4 => ?_)
            · try simp only [decide_eq_true_eq, Bool.not_eq_true', decide_eq_false_iff_not, Bool.not_eq_true, Bool.not_eq_eq_eq_not, Bool.not_true, Bool.not_false] at h4
              with_reducible refine Rd.iteT rfl (Rd.seq (Rd.asg (Rd.op (Rd.op (Rd.var (by walk_at "vr") (Rd.c (Rd.ixL (by walk_at "hpl") (by walk_at "vr") (Rd.c (Rd.i0 (Rd.sub (Rd.var (by walk_at "vr") ?_)))))))))))
              with_reducible refine Rd.c (Rd.setL (by walk_at "hp") (by walk_at "ixn") (Rd.seq (Rd.asg (Rd.c (Rd.sub (Rd.var (by walk_at "vr") (Rd.c (Rd.setL (by walk_at "hp") (by walk_at "ixn") (Rd.asg (Rd.un (Rd.c ?_)))))))))))
              with_reducible refine Rd.iU (Rd.sub (Rd.var (by walk_at "vr") (Rd.c (Rd.setL (by walk_at "hp") (by walk_at "ixn") (Rd.ret (Rd.var (by walk_at "vr") ?_))))))
              (repeat rw [L2.upd_upd])
              first
                | exact k _ _ (by assumption) (by assumption) (.put hl hne i0)
                | exact k _ _ (by assumption) (by assumption) (.put hl hne (by omega))
            · try simp only [decide_eq_true_eq, Bool.not_eq_true', decide_eq_false_iff_not, Bool.not_eq_true, Bool.not_eq_eq_eq_not, Bool.not_true, Bool.not_false, Int.not_lt, Int.not_le, Decidable.not_not] at h4
              with_reducible refine Rd.test (Rd.op (Rd.op (Rd.var (by walk_at "vr") (Rd.c (Rd.ixL (by walk_at "hpl") (by walk_at "vr") (Rd.c (Rd.eqS (by walk_at "vr") (Rd.bl ?_))))))))
              refine Rd.ite (fun h5 => ?_) (fun h5 => ?_)
              · try simp only [decide_eq_true_eq, Bool.not_eq_true', decide_eq_false_iff_not, Bool.not_eq_true, Bool.not_eq_eq_eq_not, Bool.not_true, Bool.not_false] at h5
                with_reducible refine Rd.seq (Rd.asg (Rd.op (Rd.op (Rd.var (by walk_at "vr") (Rd.c (Rd.ixL (by walk_at "hpl") (by walk_at "vr") (Rd.c (Rd.i0 (Rd.sub (Rd.var (by walk_at "vr") (Rd.c ?_)))))))))))
                with_reducible refine Rd.setL (by walk_at "hp") (by walk_at "ixn") (Rd.seq (Rd.asg (Rd.c (Rd.sub (Rd.var (by walk_at "vr") (Rd.c (Rd.setL (by walk_at "hp") (by walk_at "ixn") (Rd.asg (Rd.un (Rd.c (Rd.iU ?_)))))))))))
                with_reducible refine Rd.sub (Rd.var (by walk_at "vr") (Rd.c (Rd.setL (by walk_at "hp") (by walk_at "ixn") (Rd.ret (Rd.var (by walk_at "vr") ?_)))))
                (repeat rw [L2.upd_upd])
                first
                  | exact k _ _ (by assumption) (by assumption) (.put hl hne i0)
                  | exact k _ _ (by assumption) (by assumption) (.put hl hne (by omega))
              · try simp only [decide_eq_true_eq, Bool.not_eq_true', decide_eq_false_iff_not, Bool.not_eq_true, Bool.not_eq_eq_eq_not, Bool.not_true, Bool.not_false, Int.not_lt, Int.not_le, Decidable.not_not] at h5
                with_reducible refine Rd.next (Rd.ret (Rd.var (by walk_at "vr") ?_))
                (repeat rw [L2.upd_upd])
                first
                  | exact k _ _ (by assumption) (by assumption) (.put hl hne i0)
                  | exact k _ _ (by assumption) (by assumption) (.put hl hne (by omega))
          · try simp only [decide_eq_true_eq, Bool.not_eq_true', decide_eq_false_iff_not, Bool.not_eq_true, Bool.not_eq_eq_eq_not, Bool.not_true, Bool.not_false, Int.not_lt, Int.not_le, Decidable.not_not] at h3
            with_reducible refine Rd.seq (Rd.asg (Rd.op (Rd.cB (Rd.cons (Rd.op (Rd.var (by walk_at "vr") (Rd.c (Rd.ixL (by walk_at "hpl") (by walk_at "vr") (Rd.nil ((.inl ⟨_, rfl, (Rd.var (by walk_at "vr") ?_)⟩)))))))))))
            with_reducible refine Rd.iC (by walk_at "sc") (Rd.name (Rd.seq (Rd.asg (Rd.op (Rd.op (Rd.var (by walk_at "vr") (Rd.c (Rd.ixL (by walk_at "hpl") (by walk_at "vr") (Rd.var (by walk_at "vr") (Rd.iC (by walk_at "scd") (Rd.sub ?_)))))))))))
            with_reducible refine Rd.var (by walk_at "vr") (Rd.c (Rd.setL (by walk_at "hp") (by walk_at "ixn") (Rd.asg (Rd.c (Rd.name (Rd.seq (Rd.ifS (Rd.or (Rd.test (Rd.op (Rd.op ?_)))))))))))
            with_reducible refine Rd.var (by walk_at "vr") (Rd.c (Rd.ixL (by walk_at "hpl") (by walk_at "vr") (Rd.var (by walk_at "vr") (Rd.i0 (Rd.bl ?_)))))
            refine Rd.ite (fun h4 => ?_) (fun h4 => ?_)
            · try simp only [decide_eq_true_eq, Bool.not_eq_true', decide_eq_false_iff_not, Bool.not_eq_true, Bool.not_eq_eq_eq_not, Bool.not_true, Bool.not_false] at h4
              with_reducible refine Rd.iteT rfl (Rd.seq (Rd.asg (Rd.op (Rd.op (Rd.var (by walk_at "vr") (Rd.c (Rd.ixL (by walk_at "hpl") (by walk_at "vr") (Rd.c (Rd.i0 (Rd.sub (Rd.var (by walk_at "vr") ?_)))))))))))
              with_reducible refine Rd.c (Rd.setL (by walk_at "hp") (by walk_at "ixn") (Rd.seq (Rd.asg (Rd.c (Rd.sub (Rd.var (by walk_at "vr") (Rd.c (Rd.setL (by walk_at "hp") (by walk_at "ixn") (Rd.asg (Rd.un (Rd.c ?_)))))))))))
              with_reducible refine Rd.iU (Rd.sub (Rd.var (by walk_at "vr") (Rd.c (Rd.setL (by walk_at "hp") (by walk_at "ixn") (Rd.ret (Rd.var (by walk_at "vr") ?_))))))
              (repeat rw [L2.upd_upd])
              first
                | exact k _ _ (by assumption) (by assumption) (.put hl hne i0)
                | exact k _ _ (by assumption) (by assumption) (.put hl hne (by omega))
            · try simp only [decide_eq_true_eq, Bool.not_eq_true', decide_eq_false_iff_not, Bool.not_eq_true, Bool.not_eq_eq_eq_not, Bool.not_true, Bool.not_false, Int.not_lt, Int.not_le, Decidable.not_not] at h4
              with_reducible refine Rd.test (Rd.op (Rd.op (Rd.var (by walk_at "vr") (Rd.c (Rd.ixL (by walk_at "hpl") (by walk_at "vr") (Rd.c (Rd.eqS (by walk_at "vr") (Rd.bl ?_))))))))
              refine Rd.ite (fun h5 => ?_) (fun h5 => ?_)
              · try simp only [decide_eq_true_eq, Bool.not_eq_true', decide_eq_false_iff_not, Bool.not_eq_true, Bool.not_eq_eq_eq_not, Bool.not_true, Bool.not_false] at h5
                with_reducible refine Rd.seq (Rd.asg (Rd.op (Rd.op (Rd.var (by walk_at "vr") (Rd.c (Rd.ixL (by walk_at "hpl") (by walk_at "vr") (Rd.c (Rd.i0 (Rd.sub (Rd.var (by walk_at "vr") (Rd.c ?_)))))))))))
                with_reducible refine Rd.setL (by walk_at "hp") (by walk_at "ixn") (Rd.seq (Rd.asg (Rd.c (Rd.sub (Rd.var (by walk_at "vr") (Rd.c (Rd.setL (by walk_at "hp") (by walk_at "ixn") (Rd.asg (Rd.un (Rd.c (Rd.iU ?_)))))))))))
                with_reducible refine Rd.sub (Rd.var (by walk_at "vr") (Rd.c (Rd.setL (by walk_at "hp") (by walk_at "ixn") (Rd.ret (Rd.var (by walk_at "vr") ?_)))))
                (repeat rw [L2.upd_upd])
                first
                  | exact k _ _ (by assumption) (by assumption) (.put hl hne i0)
                  | exact k _ _ (by assumption) (by assumption) (.put hl hne (by omega))
              · try simp only [decide_eq_true_eq, Bool.not_eq_true', decide_eq_false_iff_not, Bool.not_eq_true, Bool.not_eq_eq_eq_not, Bool.not_true, Bool.not_false, Int.not_lt, Int.not_le, Decidable.not_not] at h5
                with_reducible refine Rd.next (Rd.ret (Rd.var (by walk_at "vr") ?_))
                (repeat rw [L2.upd_upd])
                first
                  | exact k _ _ (by assumption) (by assumption) (.put hl hne i0)
                  | exact k _ _ (by assumption) (by assumption) (.put hl hne (by omega))
        · try simp only [decide_eq_true_eq, Bool.not_eq_true', decide_eq_false_iff_not, Bool.not_eq_true, Bool.not_eq_eq_eq_not, Bool.not_true, Bool.not_false, Int.not_lt, Int.not_le, Decidable.not_not] at h2
          with_reducible refine Rd.next (Rd.seq (Rd.ifS (Rd.test (Rd.op (Rd.op (Rd.var (by walk_at "vr") (Rd.c (Rd.ixL (by walk_at "hpl") (by walk_at "vr") (Rd.c (Rd.i0 (Rd.bl ?_)))))))))))
          refine Rd.ite (fun h3 => ?_) (fun h3 => ?_)
          · try simp only [decide_eq_true_eq, Bool.not_eq_true', decide_eq_false_iff_not, Bool.not_eq_true, Bool.not_eq_eq_eq_not, Bool.not_true, Bool.not_false] at h3
            with_reducible refine Rd.seq (Rd.asg (Rd.call (Rd.cons (Rd.var (by walk_at "vr") (Rd.cons (Rd.op (Rd.var (by walk_at "vr") (Rd.c (Rd.ixL (by walk_at "hpl") (by walk_at "vr") (Rd.cons (Rd.var (by walk_at "vr") ?_)))))))))))
            with_reducible refine Rd.nil ?_
            refine ⟨_, _, _, rfl, (by walk_at "sc"), (by walk_at "sc"), fun d3 d3a d3b => ?_⟩
            with_reducible refine Rd.name (Rd.asg (Rd.c (Rd.name (Rd.seq (Rd.ifS (Rd.or (Rd.test (Rd.op (Rd.op (Rd.var (by walk_at "vr") (Rd.c ?_)))))))))))
            with_reducible refine Rd.ixL (by walk_at "hpl") (by walk_at "vr") (Rd.var (by walk_at "vr") (Rd.i0 (Rd.bl ?_)))
            refine Rd.ite (fun h4 => ?_) (fun h4 => ?_)
            · try simp only [decide_eq_true_eq, Bool.not_eq_true', decide_eq_false_iff_not, Bool.not_eq_true, Bool.not_eq_eq_eq_not, Bool.not_true, Bool.not_false] at h4
              with_reducible refine Rd.iteT rfl (Rd.seq (Rd.asg (Rd.op (Rd.op (Rd.var (by walk_at "vr") (Rd.c (Rd.ixL (by walk_at "hpl") (by walk_at "vr") (Rd.c (Rd.i0 (Rd.sub (Rd.var (by walk_at "vr") ?_)))))))))))
              with_reducible refine Rd.c (Rd.setL (by walk_at "hp") (by walk_at "ixn") (Rd.seq (Rd.asg (Rd.c (Rd.sub (Rd.var (by walk_at "vr") (Rd.c (Rd.setL (by walk_at "hp") (by walk_at "ixn") (Rd.asg (Rd.un (Rd.c ?_)))))))))))
              with_reducible refine Rd.iU (Rd.sub (Rd.var (by walk_at "vr") (Rd.c (Rd.setL (by walk_at "hp") (by walk_at "ixn") (Rd.ret (Rd.var (by walk_at "vr") ?_))))))
              (repeat rw [L2.upd_upd])
              first
                | exact k _ _ (by assumption) (by assumption) (.put hl hne i0)
                | exact k _ _ (by assumption) (by assumption) (.put hl hne (by omega))
            · try simp only [decide_eq_true_eq, Bool.not_eq_true', decide_eq_false_iff_not, Bool.not_eq_true, Bool.not_eq_eq_eq_not, Bool.not_true, Bool.not_false, Int.not_lt, Int.not_le, Decidable.not_not] at h4
              with_reducible refine Rd.test (Rd.op (Rd.op (Rd.var (by walk_at "vr") (Rd.c (Rd.ixL (by walk_at "hpl") (by walk_at "vr") (Rd.c (Rd.eqS (by walk_at "vr") (Rd.bl ?_))))))))
              refine Rd.ite (fun h5 => ?_) (fun h5 => ?_)
              · try simp only [decide_eq_true_eq, Bool.not_eq_true', decide_eq_false_iff_not, Bool.not_eq_true, Bool.not_eq_eq_eq_not, Bool.not_true, Bool.not_false] at h5
                with_reducible refine Rd.seq (Rd.asg (Rd.op (Rd.op (Rd.var (by walk_at "vr") (Rd.c (Rd.ixL (by walk_at "hpl") (by walk_at "vr") (Rd.c (Rd.i0 (Rd.sub (Rd.var (by walk_at "vr") (Rd.c ?_)))))))))))
                with_reducible refine Rd.setL (by walk_at "hp") (by walk_at "ixn") (Rd.seq (Rd.asg (Rd.c (Rd.sub (Rd.var (by walk_at "vr") (Rd.c (Rd.setL (by walk_at "hp") (by walk_at "ixn") (Rd.asg (Rd.un (Rd.c (Rd.iU ?_)))))))))))
                with_reducible refine Rd.sub (Rd.var (by walk_at "vr") (Rd.c (Rd.setL (by walk_at "hp") (by walk_at "ixn") (Rd.ret (Rd.var (by walk_at "vr") ?_)))))
                (repeat rw [L2.upd_upd])
                first
                  | exact k _ _ (by assumption) (by assumption) (.put hl hne i0)
                  | exact k _ _ (by assumption) (by assumption) (.put hl hne (by omega))
              · try simp only [decide_eq_true_eq, Bool.not_eq_true', decide_eq_false_iff_not, Bool.not_eq_true, Bool.not_eq_eq_eq_not, Bool.not_true, Bool.not_false, Int.not_lt, Int.not_le, Decidable.not_not] at h5
                with_reducible refine Rd.next (Rd.ret (Rd.var (by walk_at "vr") ?_))
                (repeat rw [L2.upd_upd])
                first
                  | exact k _ _ (by assumption) (by assumption) (.put hl hne i0)
                  | exact k _ _ (by assumption) (by assumption) (.put hl hne (by omega))
          · try simp only [decide_eq_true_eq, Bool.not_eq_true', decide_eq_false_iff_not, Bool.not_eq_true, Bool.not_eq_eq_eq_not, Bool.not_true, Bool.not_false, Int.not_lt, Int.not_le, Decidable.not_not] at h3
            with_reducible refine Rd.seq (Rd.asg (Rd.op (Rd.cB (Rd.cons (Rd.op (Rd.var (by walk_at "vr") (Rd.c (Rd.ixL (by walk_at "hpl") (by walk_at "vr") (Rd.nil ((.inl ⟨_, rfl, (Rd.var (by walk_at "vr") ?_)⟩)))))))))))
            with_reducible refine Rd.iC (by walk_at "sc") (Rd.name (Rd.seq (Rd.asg (Rd.op (Rd.op (Rd.var (by walk_at "vr") (Rd.c (Rd.ixL (by walk_at "hpl") (by walk_at "vr") (Rd.var (by walk_at "vr") (Rd.iC (by walk_at "scd") (Rd.sub ?_)))))))))))
            with_reducible refine Rd.var (by walk_at "vr") (Rd.c (Rd.setL (by walk_at "hp") (by walk_at "ixn") (Rd.asg (Rd.c (Rd.name (Rd.seq (Rd.ifS (Rd.or (Rd.test (Rd.op (Rd.op ?_)))))))))))
            with_reducible refine Rd.var (by walk_at "vr") (Rd.c (Rd.ixL (by walk_at "hpl") (by walk_at "vr") (Rd.var (by walk_at "vr") (Rd.i0 (Rd.bl ?_)))))
            refine Rd.ite (fun h4 => ?_) (fun h4 => ?_)
            · try simp only [decide_eq_true_eq, Bool.not_eq_true', decide_eq_false_iff_not, Bool.not_eq_true, Bool.not_eq_eq_eq_not, Bool.not_true, Bool.not_false] at h4
              with_reducible refine Rd.iteT rfl (Rd.seq (Rd.asg (Rd.op (Rd.op (Rd.var (by walk_at "vr") (Rd.c (Rd.ixL (by walk_at "hpl") (by walk_at "vr") (Rd.c (Rd.i0 (Rd.sub (Rd.var (by walk_at "vr") ?_)))))))))))
              with_reducible refine Rd.c (Rd.setL (by walk_at "hp") (by walk_at "ixn") (Rd.seq (Rd.asg (Rd.c (Rd.sub (Rd.var (by walk_at "vr") (Rd.c (Rd.setL (by walk_at "hp") (by walk_at "ixn") (Rd.asg (Rd.un (Rd.c ?_)))))))))))
              with_reducible refine Rd.iU (Rd.sub (Rd.var (by walk_at "vr") (Rd.c (Rd.setL (by walk_at "hp") (by walk_at "ixn") (Rd.ret (Rd.var (by walk_at "vr") ?_))))))
              (repeat rw [L2.upd_upd])
              first
                | exact k _ _ (by assumption) (by assumption) (.put hl hne i0)
                | exact k _ _ (by assumption) (by assumption) (.put hl hne (by omega))
            · try simp only [decide_eq_true_eq, Bool.not_eq_true', decide_eq_false_iff_not, Bool.not_eq_true, Bool.not_eq_eq_eq_not, Bool.not_true, Bool.not_false, Int.not_lt, Int.not_le, Decidable.not_not] at h4
              with_reducible refine Rd.test (Rd.op (Rd.op (Rd.var (by walk_at "vr") (Rd.c (Rd.ixL (by walk_at "hpl") (by walk_at "vr") (Rd.c (Rd.eqS (by walk_at "vr") (Rd.bl ?_))))))))
              refine Rd.ite (fun h5 => ?_) (fun h5 => ?_)
              · try simp only [decide_eq_true_eq, Bool.not_eq_true', decide_eq_false_iff_not, Bool.not_eq_true, Bool.not_eq_eq_eq_not, Bool.not_true, Bool.not_false] at h5
                with_reducible refine Rd.seq (Rd.asg (Rd.op (Rd.op (Rd.var (by walk_at "vr") (Rd.c (Rd.ixL (by walk_at "hpl") (by walk_at "vr") (Rd.c (Rd.i0 (Rd.sub (Rd.var (by walk_at "vr") (Rd.c ?_)))))))))))
                with_reducible refine Rd.setL (by walk_at "hp") (by walk_at "ixn") (Rd.seq (Rd.asg (Rd.c (Rd.sub (Rd.var (by walk_at "vr") (Rd.c (Rd.setL (by walk_at "hp") (by walk_at "ixn") (Rd.asg (Rd.un (Rd.c (Rd.iU ?_)))))))))))
                with_reducible refine Rd.sub (Rd.var (by walk_at "vr") (Rd.c (Rd.setL (by walk_at "hp") (by walk_at "ixn") (Rd.ret (Rd.var (by walk_at "vr") ?_)))))
                (repeat rw [L2.upd_upd])
                first
                  | exact k _ _ (by assumption) (by assumption) (.put hl hne i0)
                  | exact k _ _ (by assumption) (by assumption) (.put hl hne (by omega))
              · try simp only [decide_eq_true_eq, Bool.not_eq_true', decide_eq_false_iff_not, Bool.not_eq_true, Bool.not_eq_eq_eq_not, Bool.not_true, Bool.not_false, Int.not_lt, Int.not_le, Decidable.not_not] at h5
                with_reducible refine Rd.next (Rd.ret (Rd.var (by walk_at "vr") ?_))
                (repeat rw [L2.upd_upd])
                first
                  | exact k _ _ (by assumption) (by assumption) (.put hl hne i0)
                  | exact k _ _ (by assumption) (by assumption) (.put hl hne (by omega))
      · try simp only [decide_eq_true_eq, Bool.not_eq_true', decide_eq_false_iff_not, Bool.not_eq_true, Bool.not_eq_eq_eq_not, Bool.not_true, Bool.not_false, Int.not_lt, Int.not_le, Decidable.not_not] at h1
        with_reducible refine Rd.iteF rfl (Rd.next (Rd.seq (Rd.ifS (Rd.test (Rd.op (Rd.op (Rd.var (by walk_at "vr") (Rd.c (Rd.ixL (by walk_at "hpl") (by walk_at "vr") (Rd.c (Rd.i0 ?_)))))))))))
        with_reducible refine Rd.bl ?_
        refine Rd.ite (fun h3 => ?_) (fun h3 => ?_)
        · try simp only [decide_eq_true_eq, Bool.not_eq_true', decide_eq_false_iff_not, Bool.not_eq_true, Bool.not_eq_eq_eq_not, Bool.not_true, Bool.not_false] at h3
          with_reducible refine Rd.seq (Rd.asg (Rd.call (Rd.cons (Rd.var (by walk_at "vr") (Rd.cons (Rd.op (Rd.var (by walk_at "vr") (Rd.c (Rd.ixL (by walk_at "hpl") (by walk_at "vr") (Rd.cons (Rd.var (by walk_at "vr") ?_)))))))))))
          with_reducible refine Rd.nil ?_
          refine ⟨_, _, _, rfl, (by walk_at "sc"), (by walk_at "sc"), fun d4 d4a d4b => ?_⟩
          with_reducible refine Rd.name (Rd.asg (Rd.c (Rd.name (Rd.seq (Rd.ifS (Rd.or (Rd.test (Rd.op (Rd.op (Rd.var (by walk_at "vr") (Rd.c ?_)))))))))))
          with_reducible refine Rd.ixL (by walk_at "hpl") (by walk_at "vr") (Rd.var (by walk_at "vr") (Rd.i0 (Rd.bl ?_)))
          refine Rd.ite (fun h4 => ?_) (fun h4 => ?_)
          · try simp only [decide_eq_true_eq, Bool.not_eq_true', decide_eq_false_iff_not, Bool.not_eq_true, Bool.not_eq_eq_eq_not, Bool.not_true, Bool.not_false] at h4
            with_reducible refine Rd.iteT rfl (Rd.seq (Rd.asg (Rd.op (Rd.op (Rd.var (by walk_at "vr") (Rd.c (Rd.ixL (by walk_at "hpl") (by walk_at "vr") (Rd.c (Rd.i0 (Rd.sub (Rd.var (by walk_at "vr") ?_)))))))))))
            with_reducible refine Rd.c (Rd.setL (by walk_at "hp") (by walk_at "ixn") (Rd.seq (Rd.asg (Rd.c (Rd.sub (Rd.var (by walk_at "vr") (Rd.c (Rd.setL (by walk_at "hp") (by walk_at "ixn") (Rd.asg (Rd.un (Rd.c ?_)))))))))))
            with_reducible refine Rd.iU (Rd.sub (Rd.var (by walk_at "vr") (Rd.c (Rd.setL (by walk_at "hp") (by walk_at "ixn") (Rd.ret (Rd.var (by walk_at "vr") ?_))))))
            (repeat rw [L2.upd_upd])
            first
              | exact k _ _ (by assumption) (by assumption) (.put hl hne i0)
              | exact k _ _ (by assumption) (by assumption) (.put hl hne (by omega))
          · try simp only [decide_eq_true_eq, Bool.not_eq_true', decide_eq_false_iff_not, Bool.not_eq_true, Bool.not_eq_eq_eq_not, Bool.not_true, Bool.not_false, Int.not_lt, Int.not_le, Decidable.not_not] at h4
            with_reducible refine Rd.test (Rd.op (Rd.op (Rd.var (by walk_at "vr") (Rd.c (Rd.ixL (by walk_at "hpl") (by walk_at "vr") (Rd.c (Rd.eqS (by walk_at "vr") (Rd.bl ?_))))))))
            refine Rd.ite (fun h5 => ?_) (fun h5 => ?_)
            · try simp only [decide_eq_true_eq, Bool.not_eq_true', decide_eq_false_iff_not, Bool.not_eq_true, Bool.not_eq_eq_eq_not, Bool.not_true, Bool.not_false] at h5
              with_reducible refine Rd.seq (Rd.asg (Rd.op (Rd.op (Rd.var (by walk_at "vr") (Rd.c (Rd.ixL (by walk_at "hpl") (by walk_at "vr") (Rd.c (Rd.i0 (Rd.sub (Rd.var (by walk_at "vr") (Rd.c ?_)))))))))))
              with_reducible refine Rd.setL (by walk_at "hp") (by walk_at "ixn") (Rd.seq (Rd.asg (Rd.c (Rd.sub (Rd.var (by walk_at "vr") (Rd.c (Rd.setL (by walk_at "hp") (by walk_at "ixn") (Rd.asg (Rd.un (Rd.c (Rd.iU ?_)))))))))))
              with_reducible refine Rd.sub (Rd.var (by walk_at "vr") (Rd.c (Rd.setL (by walk_at "hp") (by walk_at "ixn") (Rd.ret (Rd.var (by walk_at "vr") ?_)))))
              (repeat rw [L2.upd_upd])
              first
                | exact k _ _ (by assumption) (by assumption) (.put hl hne i0)
                | exact k _ _ (by assumption) (by assumption) (.put hl hne (by omega))
            · try simp only [decide_eq_true_eq, Bool.not_eq_true', decide_eq_false_iff_not, Bool.not_eq_true, Bool.not_eq_eq_eq_not, Bool.not_true, Bool.not_false, Int.not_lt, Int.not_le, Decidable.not_not] at h5
              with_reducible refine Rd.next (Rd.ret (Rd.var (by walk_at "vr") ?_))
              (repeat rw [L2.upd_upd])
              first
                | exact k _ _ (by assumption) (by assumption) (.put hl hne i0)
                | exact k _ _ (by assumption) (by assumption) (.put hl hne (by omega))
        · try simp only [decide_eq_true_eq, Bool.not_eq_true', decide_eq_false_iff_not, Bool.not_eq_true, Bool.not_eq_eq_eq_not, Bool.not_true, Bool.not_false, Int.not_lt, Int.not_le, Decidable.not_not] at h3
          with_reducible refine Rd.seq (Rd.asg (Rd.op (Rd.cB (Rd.cons (Rd.op (Rd.var (by walk_at "vr") (Rd.c (Rd.ixL (by walk_at "hpl") (by walk_at "vr") (Rd.nil ((.inl ⟨_, rfl, (Rd.var (by walk_at "vr") ?_)⟩)))))))))))
          with_reducible refine Rd.iC (by walk_at "sc") (Rd.name (Rd.seq (Rd.asg (Rd.op (Rd.op (Rd.var (by walk_at "vr") (Rd.c (Rd.ixL (by walk_at "hpl") (by walk_at "vr") (Rd.var (by walk_at "vr") (Rd.iC (by walk_at "scd") (Rd.sub ?_)))))))))))
          with_reducible refine Rd.var (by walk_at "vr") (Rd.c (Rd.setL (by walk_at "hp") (by walk_at "ixn") (Rd.asg (Rd.c (Rd.name (Rd.seq (Rd.ifS (Rd.or (Rd.test (Rd.op (Rd.op ?_)))))))))))
          with_reducible refine Rd.var (by walk_at "vr") (Rd.c (Rd.ixL (by walk_at "hpl") (by walk_at "vr") (Rd.var (by walk_at "vr") (Rd.i0 (Rd.bl ?_)))))
          refine Rd.ite (fun h4 => ?_) (fun h4 => ?_)
          · try simp only [decide_eq_true_eq, Bool.not_eq_true', decide_eq_false_iff_not, Bool.not_eq_true, Bool.not_eq_eq_eq_not, Bool.not_true, Bool.not_false] at h4
            with_reducible refine Rd.iteT rfl (Rd.seq (Rd.asg (Rd.op (Rd.op (Rd.var (by walk_at "vr") (Rd.c (Rd.ixL (by walk_at "hpl") (by walk_at "vr") (Rd.c (Rd.i0 (Rd.sub (Rd.var (by walk_at "vr") ?_)))))))))))
            with_reducible refine Rd.c (Rd.setL (by walk_at "hp") (by walk_at "ixn") (Rd.seq (Rd.asg (Rd.c (Rd.sub (Rd.var (by walk_at "vr") (Rd.c (Rd.setL (by walk_at "hp") (by walk_at "ixn") (Rd.asg (Rd.un (Rd.c ?_)))))))))))
            with_reducible refine Rd.iU (Rd.sub (Rd.var (by walk_at "vr") (Rd.c (Rd.setL (by walk_at "hp") (by walk_at "ixn") (Rd.ret (Rd.var (by walk_at "vr") ?_))))))
            (repeat rw [L2.upd_upd])
            first
              | exact k _ _ (by assumption) (by assumption) (.put hl hne i0)
              | exact k _ _ (by assumption) (by assumption) (.put hl hne (by omega))
          · try simp only [decide_eq_true_eq, Bool.not_eq_true', decide_eq_false_iff_not, Bool.not_eq_true, Bool.not_eq_eq_eq_not, Bool.not_true, Bool.not_false, Int.not_lt, Int.not_le, Decidable.not_not] at h4
            with_reducible refine Rd.test (Rd.op (Rd.op (Rd.var (by walk_at "vr") (Rd.c (Rd.ixL (by walk_at "hpl") (by walk_at "vr") (Rd.c (Rd.eqS (by walk_at "vr") (Rd.bl ?_))))))))
            refine Rd.ite (fun h5 => ?_) (fun h5 => ?_)
            · try simp only [decide_eq_true_eq, Bool.not_eq_true', decide_eq_false_iff_not, Bool.not_eq_true, Bool.not_eq_eq_eq_not, Bool.not_true, Bool.not_false] at h5
              with_reducible refine Rd.seq (Rd.asg (Rd.op (Rd.op (Rd.var (by walk_at "vr") (Rd.c (Rd.ixL (by walk_at "hpl") (by walk_at "vr") (Rd.c (Rd.i0 (Rd.sub (Rd.var (by walk_at "vr") (Rd.c ?_)))))))))))
              with_reducible refine Rd.setL (by walk_at "hp") (by walk_at "ixn") (Rd.seq (Rd.asg (Rd.c (Rd.sub (Rd.var (by walk_at "vr") (Rd.c (Rd.setL (by walk_at "hp") (by walk_at "ixn") (Rd.asg (Rd.un (Rd.c (Rd.iU ?_)))))))))))
              with_reducible refine Rd.sub (Rd.var (by walk_at "vr") (Rd.c (Rd.setL (by walk_at "hp") (by walk_at "ixn") (Rd.ret (Rd.var (by walk_at "vr") ?_)))))
              (repeat rw [L2.upd_upd])
              first
                | exact k _ _ (by assumption) (by assumption) (.put hl hne i0)
                | exact k _ _ (by assumption) (by assumption) (.put hl hne (by omega))
            · try simp only [decide_eq_true_eq, Bool.not_eq_true', decide_eq_false_iff_not, Bool.not_eq_true, Bool.not_eq_eq_eq_not, Bool.not_true, Bool.not_false, Int.not_lt, Int.not_le, Decidable.not_not] at h5
              with_reducible refine Rd.next (Rd.ret (Rd.var (by walk_at "vr") ?_))
              (repeat rw [L2.upd_upd])
              first
                | exact k _ _ (by assumption) (by assumption) (.put hl hne i0)
                | exact k _ _ (by assumption) (by assumption) (.put hl hne (by omega))
/-! _law_wide -/
theorem sc_l_wide : FnScope ["_law_pool_here", "_law_most", "_law_kind", "_law_told"] ["_law_pool_here", "_law_most"] (defScope s_l_wide) := ⟨rfl, rfl, rfl, by decide +kernel, rfl, by decide +kernel, by decide +kernel⟩
abbrev sp_l_wide (K : PySem.W.Frag) (A : Adr) : Sp := fun vs H Q _ => ∃ (a : Addr) (o : HO) (w : Int), vs = [.ref a, .int w] ∧ H a = some o ∧ PoolO H a o ∧ 0 ≤ w ∧ w < 2 ^ 180 ∧ ∀ (d : Int) (o' : HO), 0 ≤ d → d ≤ w → PoolO (upd H a o') a o' → Q (.int d) (upd H a o')
theorem ok_l_wide (T : Txt w K mg A) : FnOk P w K mg base CX0 3 A.f_l_wide A.d_l_wide ["_law_pool_here", "_law_most"] (sp_l_wide K A) := by
  refine T.F_l_wide.ok sc_l_wide (fun vs H Q E h => ?_) (fun cdv Ar outer s H vs Q E hr h => ?_)
  · obtain ⟨a, o, w, rfl, ha, ho, w0, w1, k⟩ := h
    rfl
  · obtain ⟨a, o, w, rfl, ha, ho, w0, w1, k⟩ := h
    have hu := hu_of hr
    have t_q_PART_NAMES := T.q_PART_NAMES
    have t_q_PART_WORDS_slot := T.q_PART_WORDS_slot
    have t_d_PART_WORDS_slot := T.d_PART_WORDS_slot
    have t_q_PART_WORDS_empty := T.q_PART_WORDS_empty
    have t_d_PART_WORDS_empty := T.d_PART_WORDS_empty
    have t_q_PART_WORDS_when := T.q_PART_WORDS_when
    have t_d_PART_WORDS_when := T.d_PART_WORDS_when
    have t_q_MEASURES := T.q_MEASURES
    have t_q_SIGNS := T.q_SIGNS
    have t_q_PLAIN_FULLS := T.q_PLAIN_FULLS
    have t_i_Form := T.i_Form
    have t_kt_Form_Form := T.kt_Form_Form
    have t_kt_int_Form := T.kt_int_Form
    have t_nf_Form_Form := T.nf_Form_Form
    have t_nf_int_Form := T.nf_int_Form
    have t_xm_NoSize_NoSize := T.xm_NoSize_NoSize
    have t_xm_NoRing_NoSize := T.xm_NoRing_NoSize
    have t_xm_NoRing_NoRing := T.xm_NoRing_NoRing
    have t_xm_NotDecided_NoSize := T.xm_NotDecided_NoSize
    have t_xm_NotDecided_NoRing := T.xm_NotDecided_NoRing
    have t_xm_NotDecided_NotDecided := T.xm_NotDecided_NotDecided
    have t_xm_NoLag_NoSize := T.xm_NoLag_NoSize
    have t_xm_NoLag_NoRing := T.xm_NoLag_NoRing
    have t_xm_NoLag_NotDecided := T.xm_NoLag_NotDecided
    have t_xm_NoLag_NoLag := T.xm_NoLag_NoLag
    have t_xm_Outside_Outside := T.xm_Outside_Outside
    have t_k_Form := T.k_Form
    have t_k_Scheme := T.k_Scheme
    have t_k_Log := T.k_Log
    refine ⟨_, (pss_cons (ps_set (i := 2) sc_l_wide.nd rfl (Or.inl rfl) (pe_call (ok_l_draw T) (hr.mono (by decide)) (by rfl) T.m_l_draw T.F_l_draw.kp T.b_l_draw .nil pass0 (pa_cons (pv 0) (pa_cons pe_int pa_nil))))
      (pss_cons (ps_if (pt_cmpR op_eq (pv 2) pe_int (nomark _)) (pss_one (ps_ret (pe_op op_mod (pe_callTy call_int1 (by rfl) T.n_int (by decide +kernel) (pa_cons (pe_call (ok_l_draw T) (hr.mono (by decide)) (by rfl) T.m_l_draw T.F_l_draw.kp T.b_l_draw .nil pass0 (pa_cons (pv 0) (pa_cons pe_int pa_nil))) pa_nil)) (pe_op op_add (pv 1) pe_int)))) pss_nil)
      (pss_cons (ps_if (pt_cmpR op_eq (pv 2) pe_int (nomark _)) (pss_one (ps_ret (pe_op op_mod (pe_callTy call_int1 (by rfl) T.n_int (by decide +kernel) (pa_cons (pe_call (ok_l_draw T) (hr.mono (by decide)) (by rfl) T.m_l_draw T.F_l_draw.kp T.b_l_draw .nil pass0 (pa_cons (pv 0) (pa_cons pe_int pa_nil))) pa_nil)) (pe_op op_add (pv 1) pe_int)))) pss_nil)
      (pss_cons (ps_set (i := 3) sc_l_wide.nd rfl (Or.inl rfl) (pe_op op_add (pe_op op_add (pe_op op_mul (pe_call (ok_l_draw T) (hr.mono (by decide)) (by rfl) T.m_l_draw T.F_l_draw.kp T.b_l_draw .nil pass0 (pa_cons (pv 0) (pa_cons (pe_op op_pow pe_int pe_int) pa_nil))) (pe_op op_pow pe_int pe_int)) (pe_op op_mul (pe_call (ok_l_draw T) (hr.mono (by decide)) (by rfl) T.m_l_draw T.F_l_draw.kp T.b_l_draw .nil pass0 (pa_cons (pv 0) (pa_cons (pe_op op_pow pe_int pe_int) pa_nil))) (pe_op op_pow pe_int pe_int))) (pe_call (ok_l_draw T) (hr.mono (by decide)) (by rfl) T.m_l_draw T.F_l_draw.kp T.b_l_draw .nil pass0 (pa_cons (pv 0) (pa_cons (pe_op op_pow pe_int pe_int) pa_nil)))))
      (pss_cons (ps_if (pt_cmpR op_eq (pv 2) pe_int (nomark _)) (pss_one (ps_set (i := 3) sc_l_wide.nd rfl (Or.inl rfl) (pe_op op_add (pe_op op_mul (pv 3) (pe_op op_pow pe_int pe_int)) (pe_call (ok_l_draw T) (hr.mono (by decide)) (by rfl) T.m_l_draw T.F_l_draw.kp T.b_l_draw .nil pass0 (pa_cons (pv 0) (pa_cons (pe_op op_pow pe_int pe_int) pa_nil)))))) pss_nil)
      (pss_one (ps_ret (pe_op op_mod (pe_callTy call_int1 (by rfl) T.n_int (by decide +kernel) (pa_cons (pv 3) pa_nil)) (pe_op op_add (pv 1) pe_int))))))))), ?_⟩
    try dsimp only [L2.cxOf, L2.Cx.nox, L2.Cx.wish]
    with_reducible refine Rd.seq (Rd.asg (Rd.call (Rd.cons (Rd.var (by walk_at "vr") (Rd.cons (Rd.c (Rd.nil ?_)))))))
    refine ⟨_, _, _, rfl, (by walk_at "hp"), (by walk_at "pool"), (by walk_at "sc"), (by walk_at "sc"), fun d1 o1 d1a d1b s1 => ?_⟩
    with_reducible refine Rd.name (Rd.seq (Rd.ifS (Rd.test (Rd.op (Rd.var (by walk_at "vr") (Rd.c (Rd.eqS (by walk_at "vr") (Rd.bl ?_))))))))
    refine Rd.ite (fun h0 => ?_) (fun h0 => ?_)
    · try simp only [decide_eq_true_eq, Bool.not_eq_true', decide_eq_false_iff_not, Bool.not_eq_true, Bool.not_eq_eq_eq_not, Bool.not_true, Bool.not_false] at h0
      with_reducible refine Rd.ret (Rd.op (Rd.cB (Rd.cons (Rd.call (Rd.cons (Rd.var (by walk_at "vr") (Rd.cons (Rd.c (Rd.nil ?_)))))))))
      refine ⟨_, _, _, rfl, (by walk_at "hp"), (by walk_at "pool"), (by walk_at "sc"), (by walk_at "sc"), fun d2 o2 d2a d2b s2 => ?_⟩
      with_reducible refine Rd.nil ((.inl ⟨_, rfl, (Rd.op (Rd.var (by walk_at "vr") (Rd.c (Rd.i0 (Rd.iC (by walk_at "sc") ?_)))))⟩))
      (repeat rw [L2.upd_upd] at *)
      exact k _ _ (Int.emod_nonneg _ (by omega)) (Int.le_of_lt_add_one (Int.emod_lt_of_pos _ (by omega))) (by assumption)
    · try simp only [decide_eq_true_eq, Bool.not_eq_true', decide_eq_false_iff_not, Bool.not_eq_true, Bool.not_eq_eq_eq_not, Bool.not_true, Bool.not_false, Int.not_lt, Int.not_le, Decidable.not_not] at h0
      with_reducible refine Rd.next (Rd.seq (Rd.ifS (Rd.test (Rd.op (Rd.var (by walk_at "vr") (Rd.c (Rd.eqS (by walk_at "vr") (Rd.bl ?_))))))))
      refine Rd.ite (fun h1 => ?_) (fun h1 => ?_)
      · try simp only [decide_eq_true_eq, Bool.not_eq_true', decide_eq_false_iff_not, Bool.not_eq_true, Bool.not_eq_eq_eq_not, Bool.not_true, Bool.not_false] at h1
        with_reducible refine Rd.ret (Rd.op (Rd.cB (Rd.cons (Rd.call (Rd.cons (Rd.var (by walk_at "vr") (Rd.cons (Rd.c (Rd.nil ?_)))))))))
        refine ⟨_, _, _, rfl, (by walk_at "hp"), (by walk_at "pool"), (by walk_at "sc"), (by walk_at "sc"), fun d3 o3 d3a d3b s3 => ?_⟩
        with_reducible refine Rd.nil ((.inl ⟨_, rfl, (Rd.op (Rd.var (by walk_at "vr") (Rd.c (Rd.i0 (Rd.iC (by walk_at "sc") ?_)))))⟩))
        (repeat rw [L2.upd_upd] at *)
        exact k _ _ (Int.emod_nonneg _ (by omega)) (Int.le_of_lt_add_one (Int.emod_lt_of_pos _ (by omega))) (by assumption)
      · try simp only [decide_eq_true_eq, Bool.not_eq_true', decide_eq_false_iff_not, Bool.not_eq_true, Bool.not_eq_eq_eq_not, Bool.not_true, Bool.not_false, Int.not_lt, Int.not_le, Decidable.not_not] at h1
        with_reducible refine Rd.next (Rd.seq (Rd.asg (Rd.op (Rd.op (Rd.op (Rd.call (Rd.cons (Rd.var (by walk_at "vr") (Rd.cons (Rd.op (Rd.c ?_)))))))))))
        with_reducible refine Rd.c (Rd.iC (by walk_at "scp") (Rd.nil ?_))
        refine ⟨_, _, _, rfl, (by walk_at "hp"), (by walk_at "pool"), (by walk_at "sc"), (by walk_at "sc"), fun d4 o4 d4a d4b s4 => ?_⟩
        with_reducible refine Rd.op (Rd.c (Rd.c (Rd.iC (by walk_at "scp") ?_)))
        refine Rd.iC (Or.inr (by decide)) ?_
        with_reducible refine Rd.op (Rd.call (Rd.cons (Rd.var (by walk_at "vr") (Rd.cons (Rd.op (Rd.c (Rd.c (Rd.iC (by walk_at "scp") (Rd.nil ?_)))))))))
        refine ⟨_, _, _, rfl, (by walk_at "hp"), (by walk_at "pool"), (by walk_at "sc"), (by walk_at "sc"), fun d5 o5 d5a d5b s5 => ?_⟩
        with_reducible refine Rd.op (Rd.c (Rd.c (Rd.iC (by walk_at "scp") ?_)))
        refine Rd.iC (Or.inr (by decide)) ?_
        with_reducible refine Rd.i0 (Rd.call (Rd.cons (Rd.var (by walk_at "vr") (Rd.cons (Rd.op (Rd.c (Rd.c (Rd.iC (by walk_at "scp") (Rd.nil ?_)))))))))
        refine ⟨_, _, _, rfl, (by walk_at "hp"), (by walk_at "pool"), (by walk_at "sc"), (by walk_at "sc"), fun d6 o6 d6a d6b s6 => ?_⟩
        with_reducible refine Rd.i0 (Rd.name (Rd.seq (Rd.ifS (Rd.test (Rd.op (Rd.var (by walk_at "vr") (Rd.c (Rd.eqS (by walk_at "vr") (Rd.bl ?_)))))))))
        refine Rd.ite (fun h2 => ?_) (fun h2 => ?_)
        · try simp only [decide_eq_true_eq, Bool.not_eq_true', decide_eq_false_iff_not, Bool.not_eq_true, Bool.not_eq_eq_eq_not, Bool.not_true, Bool.not_false] at h2
          with_reducible refine Rd.asg (Rd.op (Rd.op (Rd.var (by walk_at "vr") (Rd.op (Rd.c (Rd.c (Rd.iC (by walk_at "scp") ?_)))))))
          refine Rd.iC (Or.inr (by decide)) ?_
          with_reducible refine Rd.call (Rd.cons (Rd.var (by walk_at "vr") (Rd.cons (Rd.op (Rd.c (Rd.c (Rd.iC (by walk_at "scp") (Rd.nil ?_))))))))
          refine ⟨_, _, _, rfl, (by walk_at "hp"), (by walk_at "pool"), (by walk_at "sc"), (by walk_at "sc"), fun d7 o7 d7a d7b s7 => ?_⟩
          with_reducible refine Rd.i0 (Rd.name (Rd.ret (Rd.op (Rd.cB (Rd.cons (Rd.var (by walk_at "vr") (Rd.nil ((.inl ⟨_, rfl, (Rd.op (Rd.var (by walk_at "vr") (Rd.c ?_)))⟩)))))))))
          with_reducible refine Rd.i0 (Rd.iC (by walk_at "sc") ?_)
          (repeat rw [L2.upd_upd] at *)
          exact k _ _ (Int.emod_nonneg _ (by omega)) (Int.le_of_lt_add_one (Int.emod_lt_of_pos _ (by omega))) (by assumption)
        · try simp only [decide_eq_true_eq, Bool.not_eq_true', decide_eq_false_iff_not, Bool.not_eq_true, Bool.not_eq_eq_eq_not, Bool.not_true, Bool.not_false, Int.not_lt, Int.not_le, Decidable.not_not] at h2
          with_reducible refine Rd.next (Rd.ret (Rd.op (Rd.cB (Rd.cons (Rd.var (by walk_at "vr") (Rd.nil ((.inl ⟨_, rfl, (Rd.op (Rd.var (by walk_at "vr") (Rd.c (Rd.i0 ?_))))⟩))))))))
          with_reducible refine Rd.iC (by walk_at "sc") ?_
          (repeat rw [L2.upd_upd] at *)
          exact k _ _ (Int.emod_nonneg _ (by omega)) (Int.le_of_lt_add_one (Int.emod_lt_of_pos _ (by omega))) (by assumption)
/-! _law_made -/
theorem sc_l_made : FnScope ["_law_row", "_law_manner", "_law_turn", "_law_rule", "_law_bare", "_law_brim"] ["_law_row", "_law_manner"] (defScope s_l_made) := ⟨rfl, rfl, rfl, by decide +kernel, rfl, by decide +kernel, by decide +kernel⟩
theorem st_l_made {v0 v1 : V} : L2.start ["_law_row", "_law_manner", "_law_turn", "_law_rule", "_law_bare", "_law_brim"] [v0, v1] = [some v0, some v1, none, none, none, none] := rfl
abbrev sp_l_made (K : PySem.W.Frag) (A : Adr) : Sp := fun vs H Q _ => ∃ (v : V) (t : Pt), vs = [v, .str t.wen] ∧ IsRow H v t ∧ Wf t ∧ ∀ (p : Addr) (H' : Hp), Same H H' → H p = none → IsScheme A H' p t → Q (.ref p) H'
theorem ok_l_made (T : Txt w K mg A) : FnOk P w K mg base CX0 8 A.f_l_made A.d_l_made ["_law_row", "_law_manner"] (sp_l_made K A) := by
  refine T.F_l_made.ok sc_l_made (fun vs H Q E h => ?_) (fun cdv Ar outer s H vs Q E hr h => ?_)
  · obtain ⟨v, t, rfl, ⟨p, vt, vf, rfl, hp, ht, hf⟩, wf, k⟩ := h
    rfl
  · obtain ⟨v, t, rfl, ⟨p, vt, vf, rfl, hp, ht, hf⟩, wf, k⟩ := h
    have hu := hu_of hr
    have t_q_PART_NAMES := T.q_PART_NAMES
    have t_q_PART_WORDS_slot := T.q_PART_WORDS_slot
    have t_d_PART_WORDS_slot := T.d_PART_WORDS_slot
    have t_q_PART_WORDS_empty := T.q_PART_WORDS_empty
    have t_d_PART_WORDS_empty := T.d_PART_WORDS_empty
    have t_q_PART_WORDS_when := T.q_PART_WORDS_when
    have t_d_PART_WORDS_when := T.d_PART_WORDS_when
    have t_q_MEASURES := T.q_MEASURES
    have t_q_SIGNS := T.q_SIGNS
    have t_q_PLAIN_FULLS := T.q_PLAIN_FULLS
    have t_i_Form := T.i_Form
    have t_kt_Form_Form := T.kt_Form_Form
    have t_kt_int_Form := T.kt_int_Form
    have t_nf_Form_Form := T.nf_Form_Form
    have t_nf_int_Form := T.nf_int_Form
    have t_xm_NoSize_NoSize := T.xm_NoSize_NoSize
    have t_xm_NoRing_NoSize := T.xm_NoRing_NoSize
    have t_xm_NoRing_NoRing := T.xm_NoRing_NoRing
    have t_xm_NotDecided_NoSize := T.xm_NotDecided_NoSize
    have t_xm_NotDecided_NoRing := T.xm_NotDecided_NoRing
    have t_xm_NotDecided_NotDecided := T.xm_NotDecided_NotDecided
    have t_xm_NoLag_NoSize := T.xm_NoLag_NoSize
    have t_xm_NoLag_NoRing := T.xm_NoLag_NoRing
    have t_xm_NoLag_NotDecided := T.xm_NoLag_NotDecided
    have t_xm_NoLag_NoLag := T.xm_NoLag_NoLag
    have t_xm_Outside_Outside := T.xm_Outside_Outside
    have t_k_Form := T.k_Form
    have t_k_Scheme := T.k_Scheme
    have t_k_Log := T.k_Log
    rcases t with ⟨wr, sl, em, fl, wn⟩
    dsimp only at hp ht hf
    rcases wr with w | ⟨s, b⟩ <;> rcases fl with kk | ⟨kk, g, s2, b2⟩
    · have ht : vt = .int w := ht
      subst ht
      obtain ⟨pf, rfl, hpf⟩ := hf
      refine ⟨_, (pss_cons (ps_asg (pv 0) (pg_tup (by rfl) (pgs_cons (pg_name (i := 2) sc_l_made.nd rfl (Or.inl rfl)) (pgs_cons (pg_name (i := 3) sc_l_made.nd rfl (Or.inl rfl)) (pgs_cons (pg_name (i := 4) sc_l_made.nd rfl (Or.inl rfl)) (pgs_cons (pg_name (i := 5) sc_l_made.nd rfl (Or.inl rfl)) pgs_nil))))))
      (pss_cons (ps_if (pt_val (pe_callB (Rd.isi (K := K) rfl) (by rfl) T.n_isinstance (by decide +kernel) (pa_cons (pv 2) (pa_cons (pe_bltn (v := .ty "tuple") (u := .type "tuple") (by rfl) T.n_tuple (by decide +kernel) rfl) pa_nil)))) (pss_one ps_never) pss_nil)
      (pss_cons (ps_if (pt_cmpR op_eq (pe_callB call_len_seq (by rfl) T.n_len PySem.boot_len (pa_cons (pv 5) pa_nil)) pe_int (nomark _)) (pss_one ps_never) pss_nil)
      (pss_one (ps_ret (pe_makeK0 T.K_Scheme (ok_Schemeu__initu_ T) (hr.mono (by decide)) (by rfl) T.m_Scheme T.kb_Schemeu__initu_.choose_spec pass0 (pk_cons (pv 2) (pk_cons (pv 3) (pk_cons (pv 4) (pk_cons (pv 5) (pk_cons (pv 1) pk_nil))))))))))), ?_⟩
      try dsimp only [L2.cxOf, L2.Cx.nox, L2.Cx.wish]
      try rw [st_l_made]
      with_reducible refine Rd.seq (Rd.asg (Rd.var (by walk_at "vr") ?_))
      refine Rd.gtup (by walk_at "hpt") rfl ?_
      with_reducible refine Rd.gcons (Rd.name (Rd.gcons (Rd.name (Rd.gcons (Rd.name (Rd.gcons (Rd.name (Rd.gnil (Rd.seq (Rd.ifS (Rd.tb ?_)))))))))))
      with_reducible refine Rd.cB (Rd.cons (Rd.var (by walk_at "vr") (Rd.cons (Rd.c (Rd.nil ?_)))))
      refine ⟨_, _, _, _, _, rfl, (by walk_at "clsv"), (by walk_at "tyx"), (by walk_at "kit"), ?_⟩
      with_reducible refine Rd.bl (Rd.iteF (by walk_at "bF") (Rd.next (Rd.seq (Rd.ifS (Rd.test (Rd.op (Rd.cB (Rd.cons (Rd.var (by walk_at "vr") (Rd.nil (⟨_, _, rfl, (by walk_at "hpq"), ?_⟩)))))))))))
      with_reducible refine Rd.c (Rd.eqS (by walk_at "vr") (Rd.bl (Rd.iteF (by walk_at "bF") (Rd.next (Rd.ret (Rd.mkK (Rd.cons (Rd.var (by walk_at "vr") (Rd.cons (Rd.var (by walk_at "vr") (Rd.cons ?_)))))))))))
      with_reducible refine Rd.var (by walk_at "vr") (Rd.cons (Rd.var (by walk_at "vr") (Rd.cons (Rd.var (by walk_at "vr") (Rd.nil ?_)))))
      refine ⟨rfl, rfl, ?_⟩
      intro x1 dx1 nx1 ndx1 ne1
      refine ⟨_, _, _, _, (⟨.width w, sl, em, .plain kk, wn⟩ : Pt), rfl, L2.upd_same, rfl, ⟨_, rfl, (by walk_at "hp")⟩, wf, fun d1 H1 F1 nd1 a1 b1 => ⟨rfl, ?_⟩⟩
      exact k _ _ (by walk_at "frm") (by walk_at "nn") ⟨_, _, _, _, (by assumption), (by assumption), rfl, ⟨_, rfl, (by walk_at "hp")⟩⟩
    · have ht : vt = .int w := ht
      subst ht
      obtain ⟨pf, qf, rfl, hpf, hqf⟩ := hf
      refine ⟨_, (pss_cons (ps_asg (pv 0) (pg_tup (by rfl) (pgs_cons (pg_name (i := 2) sc_l_made.nd rfl (Or.inl rfl)) (pgs_cons (pg_name (i := 3) sc_l_made.nd rfl (Or.inl rfl)) (pgs_cons (pg_name (i := 4) sc_l_made.nd rfl (Or.inl rfl)) (pgs_cons (pg_name (i := 5) sc_l_made.nd rfl (Or.inl rfl)) pgs_nil))))))
      (pss_cons (ps_if (pt_val (pe_callB (Rd.isi (K := K) rfl) (by rfl) T.n_isinstance (by decide +kernel) (pa_cons (pv 2) (pa_cons (pe_bltn (v := .ty "tuple") (u := .type "tuple") (by rfl) T.n_tuple (by decide +kernel) rfl) pa_nil)))) (pss_one ps_never) pss_nil)
      (pss_cons (ps_if (pt_cmpR op_eq (pe_callB call_len_seq (by rfl) T.n_len PySem.boot_len (pa_cons (pv 5) pa_nil)) pe_int (nomark _)) (pss_one (ps_set (i := 5) sc_l_made.nd rfl (Or.inl rfl) (pe_tup (pa_cons (pe_ix (Rd.ixTK rfl) (pv 5) pe_int (fun _ _ => rfl)) (pa_cons (pe_ix (Rd.ixTK rfl) (pv 5) pe_int (fun _ _ => rfl)) (pa_cons (pe_make T.K_Form (ok_Formu__initu_ T) (hr.mono (by decide)) (by rfl) T.m_Form T.b_Formu__initu_ .nil pass0 (pa_cons (pe_ix (Rd.ixTK rfl) (pe_ix (Rd.ixTK rfl) (pv 5) pe_int (fun _ _ => rfl)) pe_int (fun _ _ => rfl)) (pa_cons (pe_ix (Rd.ixTK rfl) (pe_ix (Rd.ixTK rfl) (pv 5) pe_int (fun _ _ => rfl)) pe_int (fun _ _ => rfl)) pa_nil))) pa_nil)))))) pss_nil)
      (pss_one (ps_ret (pe_makeK0 T.K_Scheme (ok_Schemeu__initu_ T) (hr.mono (by decide)) (by rfl) T.m_Scheme T.kb_Schemeu__initu_.choose_spec pass0 (pk_cons (pv 2) (pk_cons (pv 3) (pk_cons (pv 4) (pk_cons (pv 5) (pk_cons (pv 1) pk_nil))))))))))), ?_⟩
      try dsimp only [L2.cxOf, L2.Cx.nox, L2.Cx.wish]
      try rw [st_l_made]
      with_reducible refine Rd.seq (Rd.asg (Rd.var (by walk_at "vr") ?_))
      refine Rd.gtup (by walk_at "hpt") rfl ?_
      with_reducible refine Rd.gcons (Rd.name (Rd.gcons (Rd.name (Rd.gcons (Rd.name (Rd.gcons (Rd.name (Rd.gnil (Rd.seq (Rd.ifS (Rd.tb ?_)))))))))))
      with_reducible refine Rd.cB (Rd.cons (Rd.var (by walk_at "vr") (Rd.cons (Rd.c (Rd.nil ?_)))))
      refine ⟨_, _, _, _, _, rfl, (by walk_at "clsv"), (by walk_at "tyx"), (by walk_at "kit"), ?_⟩
      with_reducible refine Rd.bl (Rd.iteF (by walk_at "bF") (Rd.next (Rd.seq (Rd.ifS (Rd.test (Rd.op (Rd.cB (Rd.cons (Rd.var (by walk_at "vr") (Rd.nil (⟨_, _, rfl, (by walk_at "hpq"), ?_⟩)))))))))))
      with_reducible refine Rd.c (Rd.eqS (by walk_at "vr") (Rd.bl (Rd.iteT (by walk_at "bT") (Rd.asg (Rd.tup (Rd.cons (Rd.op (Rd.var (by walk_at "vr") (Rd.c (Rd.ixT (by walk_at "hpt") (by walk_at "vr") (Rd.cons ?_)))))))))))
      with_reducible refine Rd.op (Rd.var (by walk_at "vr") (Rd.c (Rd.ixT (by walk_at "hpt") (by walk_at "vr") (Rd.cons (Rd.make (Rd.cons (Rd.op (Rd.op (Rd.var (by walk_at "vr") (Rd.c (Rd.ixT (by walk_at "hpt") (by walk_at "vr") ?_)))))))))))
      with_reducible refine Rd.c (Rd.ixT (by walk_at "hpt") (by walk_at "vr") (Rd.cons (Rd.op (Rd.op (Rd.var (by walk_at "vr") (Rd.c (Rd.ixT (by walk_at "hpt") (by walk_at "vr") (Rd.c (Rd.ixT (by walk_at "hpt") (by walk_at "vr") (Rd.nil ?_))))))))))
      intro x1 dx1 nx1 ndx1 ne1
      refine ⟨_, _, _, _, rfl, L2.upd_same, ?_⟩
      refine ⟨rfl, ?_⟩
      rw [L2.upd_upd]
      with_reducible refine Rd.nil (Rd.laid (by walk_at "ll") ?_)
      intro p0 np0
      with_reducible refine Rd.name ?_
      try dsimp only [Int.reduceToNat, List.set]
      with_reducible refine Rd.ret (Rd.mkK (Rd.cons (Rd.var (by walk_at "vr") (Rd.cons (Rd.var (by walk_at "vr") (Rd.cons (Rd.var (by walk_at "vr") (Rd.cons (Rd.var (by walk_at "vr") (Rd.cons (Rd.var (by walk_at "vr") ?_)))))))))))
      with_reducible refine Rd.nil ?_
      refine ⟨rfl, rfl, ?_⟩
      intro x2 dx2 nx2 ndx2 ne2
      refine ⟨_, _, _, _, (⟨.width w, sl, em, .lim kk g s2 b2, wn⟩ : Pt), rfl, L2.upd_same, rfl, ⟨_, _, _, rfl, (by walk_at "hp"), (by walk_at "hp")⟩, wf, fun d2 H2 F2 nd2 a2 b2 => ⟨rfl, ?_⟩⟩
      exact k _ _ (by walk_at "frm") (by walk_at "nn") ⟨_, _, _, _, (by assumption), (by assumption), rfl, ⟨_, _, _, rfl, (by walk_at "hp"), (by walk_at "hp")⟩⟩
    · obtain ⟨pt, rfl, hpt⟩ := ht
      obtain ⟨pf, rfl, hpf⟩ := hf
      refine ⟨_, (pss_cons (ps_asg (pv 0) (pg_tup (by rfl) (pgs_cons (pg_name (i := 2) sc_l_made.nd rfl (Or.inl rfl)) (pgs_cons (pg_name (i := 3) sc_l_made.nd rfl (Or.inl rfl)) (pgs_cons (pg_name (i := 4) sc_l_made.nd rfl (Or.inl rfl)) (pgs_cons (pg_name (i := 5) sc_l_made.nd rfl (Or.inl rfl)) pgs_nil))))))
      (pss_cons (ps_if (pt_val (pe_callB (Rd.isi (K := K) rfl) (by rfl) T.n_isinstance (by decide +kernel) (pa_cons (pv 2) (pa_cons (pe_bltn (v := .ty "tuple") (u := .type "tuple") (by rfl) T.n_tuple (by decide +kernel) rfl) pa_nil)))) (pss_one (ps_set (i := 2) sc_l_made.nd rfl (Or.inl rfl) (pe_make T.K_Form (ok_Formu__initu_ T) (hr.mono (by decide)) (by rfl) T.m_Form T.b_Formu__initu_ .nil pass0 (pa_cons (pe_ix (Rd.ixTK rfl) (pv 2) pe_int (fun _ _ => rfl)) (pa_cons (pe_ix (Rd.ixTK rfl) (pv 2) pe_int (fun _ _ => rfl)) pa_nil))))) pss_nil)
      (pss_cons (ps_if (pt_cmpR op_eq (pe_callB call_len_seq (by rfl) T.n_len PySem.boot_len (pa_cons (pv 5) pa_nil)) pe_int (nomark _)) (pss_one ps_never) pss_nil)
      (pss_one (ps_ret (pe_makeK0 T.K_Scheme (ok_Schemeu__initu_ T) (hr.mono (by decide)) (by rfl) T.m_Scheme T.kb_Schemeu__initu_.choose_spec pass0 (pk_cons (pv 2) (pk_cons (pv 3) (pk_cons (pv 4) (pk_cons (pv 5) (pk_cons (pv 1) pk_nil))))))))))), ?_⟩
      try dsimp only [L2.cxOf, L2.Cx.nox, L2.Cx.wish]
      try rw [st_l_made]
      with_reducible refine Rd.seq (Rd.asg (Rd.var (by walk_at "vr") ?_))
      refine Rd.gtup (by walk_at "hpt") rfl ?_
      with_reducible refine Rd.gcons (Rd.name (Rd.gcons (Rd.name (Rd.gcons (Rd.name (Rd.gcons (Rd.name (Rd.gnil (Rd.seq (Rd.ifS (Rd.tb ?_)))))))))))
      with_reducible refine Rd.cB (Rd.cons (Rd.var (by walk_at "vr") (Rd.cons (Rd.c (Rd.nil ?_)))))
      refine ⟨_, _, _, _, _, rfl, (by walk_at "clsv"), (by walk_at "tyx"), (by walk_at "kit"), ?_⟩
      with_reducible refine Rd.bl (Rd.iteT (by walk_at "bT") (Rd.asg (Rd.make (Rd.cons (Rd.op (Rd.var (by walk_at "vr") (Rd.c (Rd.ixT (by walk_at "hpt") (by walk_at "vr") (Rd.cons (Rd.op (Rd.var (by walk_at "vr") ?_)))))))))))
      with_reducible refine Rd.c (Rd.ixT (by walk_at "hpt") (by walk_at "vr") (Rd.nil ?_))
      intro x1 dx1 nx1 ndx1 ne1
      refine ⟨_, _, _, _, rfl, L2.upd_same, ?_⟩
      refine ⟨rfl, ?_⟩
      rw [L2.upd_upd]
      with_reducible refine Rd.name ?_
      try dsimp only [Int.reduceToNat, List.set]
      with_reducible refine Rd.seq (Rd.ifS (Rd.test (Rd.op (Rd.cB (Rd.cons (Rd.var (by walk_at "vr") (Rd.nil (⟨_, _, rfl, (by walk_at "hpq"), (Rd.c (Rd.eqS (by walk_at "vr") (Rd.bl ?_)))⟩))))))))
      with_reducible refine Rd.iteF (by walk_at "bF") (Rd.next (Rd.ret (Rd.mkK (Rd.cons (Rd.var (by walk_at "vr") (Rd.cons (Rd.var (by walk_at "vr") (Rd.cons (Rd.var (by walk_at "vr") (Rd.cons (Rd.var (by walk_at "vr") ?_)))))))))))
      with_reducible refine Rd.cons (Rd.var (by walk_at "vr") (Rd.nil ?_))
      refine ⟨rfl, rfl, ?_⟩
      intro x2 dx2 nx2 ndx2 ne2
      refine ⟨_, _, _, _, (⟨.form s b, sl, em, .plain kk, wn⟩ : Pt), rfl, L2.upd_same, ⟨_, _, rfl, (by walk_at "hp")⟩, ⟨_, rfl, (by walk_at "hp")⟩, wf, fun d2 H2 F2 nd2 a2 b2 => ⟨rfl, ?_⟩⟩
      exact k _ _ (by walk_at "frm") (by walk_at "nn") ⟨_, _, _, _, (by assumption), (by assumption), ⟨_, _, rfl, (by walk_at "hp")⟩, ⟨_, rfl, (by walk_at "hp")⟩⟩
    · obtain ⟨pt, rfl, hpt⟩ := ht
      obtain ⟨pf, qf, rfl, hpf, hqf⟩ := hf
      refine ⟨_, (pss_cons (ps_asg (pv 0) (pg_tup (by rfl) (pgs_cons (pg_name (i := 2) sc_l_made.nd rfl (Or.inl rfl)) (pgs_cons (pg_name (i := 3) sc_l_made.nd rfl (Or.inl rfl)) (pgs_cons (pg_name (i := 4) sc_l_made.nd rfl (Or.inl rfl)) (pgs_cons (pg_name (i := 5) sc_l_made.nd rfl (Or.inl rfl)) pgs_nil))))))
      (pss_cons (ps_if (pt_val (pe_callB (Rd.isi (K := K) rfl) (by rfl) T.n_isinstance (by decide +kernel) (pa_cons (pv 2) (pa_cons (pe_bltn (v := .ty "tuple") (u := .type "tuple") (by rfl) T.n_tuple (by decide +kernel) rfl) pa_nil)))) (pss_one (ps_set (i := 2) sc_l_made.nd rfl (Or.inl rfl) (pe_make T.K_Form (ok_Formu__initu_ T) (hr.mono (by decide)) (by rfl) T.m_Form T.b_Formu__initu_ .nil pass0 (pa_cons (pe_ix (Rd.ixTK rfl) (pv 2) pe_int (fun _ _ => rfl)) (pa_cons (pe_ix (Rd.ixTK rfl) (pv 2) pe_int (fun _ _ => rfl)) pa_nil))))) pss_nil)
      (pss_cons (ps_if (pt_cmpR op_eq (pe_callB call_len_seq (by rfl) T.n_len PySem.boot_len (pa_cons (pv 5) pa_nil)) pe_int (nomark _)) (pss_one (ps_set (i := 5) sc_l_made.nd rfl (Or.inl rfl) (pe_tup (pa_cons (pe_ix (Rd.ixTK rfl) (pv 5) pe_int (fun _ _ => rfl)) (pa_cons (pe_ix (Rd.ixTK rfl) (pv 5) pe_int (fun _ _ => rfl)) (pa_cons (pe_make T.K_Form (ok_Formu__initu_ T) (hr.mono (by decide)) (by rfl) T.m_Form T.b_Formu__initu_ .nil pass0 (pa_cons (pe_ix (Rd.ixTK rfl) (pe_ix (Rd.ixTK rfl) (pv 5) pe_int (fun _ _ => rfl)) pe_int (fun _ _ => rfl)) (pa_cons (pe_ix (Rd.ixTK rfl) (pe_ix (Rd.ixTK rfl) (pv 5) pe_int (fun _ _ => rfl)) pe_int (fun _ _ => rfl)) pa_nil))) pa_nil)))))) pss_nil)
      (pss_one (ps_ret (pe_makeK0 T.K_Scheme (ok_Schemeu__initu_ T) (hr.mono (by decide)) (by rfl) T.m_Scheme T.kb_Schemeu__initu_.choose_spec pass0 (pk_cons (pv 2) (pk_cons (pv 3) (pk_cons (pv 4) (pk_cons (pv 5) (pk_cons (pv 1) pk_nil))))))))))), ?_⟩
      try dsimp only [L2.cxOf, L2.Cx.nox, L2.Cx.wish]
      try rw [st_l_made]
      with_reducible refine Rd.seq (Rd.asg (Rd.var (by walk_at "vr") ?_))
      refine Rd.gtup (by walk_at "hpt") rfl ?_
      with_reducible refine Rd.gcons (Rd.name (Rd.gcons (Rd.name (Rd.gcons (Rd.name (Rd.gcons (Rd.name (Rd.gnil (Rd.seq (Rd.ifS (Rd.tb ?_)))))))))))
      with_reducible refine Rd.cB (Rd.cons (Rd.var (by walk_at "vr") (Rd.cons (Rd.c (Rd.nil ?_)))))
      refine ⟨_, _, _, _, _, rfl, (by walk_at "clsv"), (by walk_at "tyx"), (by walk_at "kit"), ?_⟩
      with_reducible refine Rd.bl (Rd.iteT (by walk_at "bT") (Rd.asg (Rd.make (Rd.cons (Rd.op (Rd.var (by walk_at "vr") (Rd.c (Rd.ixT (by walk_at "hpt") (by walk_at "vr") (Rd.cons (Rd.op (Rd.var (by walk_at "vr") ?_)))))))))))
      with_reducible refine Rd.c (Rd.ixT (by walk_at "hpt") (by walk_at "vr") (Rd.nil ?_))
      intro x1 dx1 nx1 ndx1 ne1
      refine ⟨_, _, _, _, rfl, L2.upd_same, ?_⟩
      refine ⟨rfl, ?_⟩
      rw [L2.upd_upd]
      with_reducible refine Rd.name ?_
      try dsimp only [Int.reduceToNat, List.set]
      with_reducible refine Rd.seq (Rd.ifS (Rd.test (Rd.op (Rd.cB (Rd.cons (Rd.var (by walk_at "vr") (Rd.nil (⟨_, _, rfl, (by walk_at "hpq"), (Rd.c (Rd.eqS (by walk_at "vr") (Rd.bl ?_)))⟩))))))))
      with_reducible refine Rd.iteT (by walk_at "bT") (Rd.asg (Rd.tup (Rd.cons (Rd.op (Rd.var (by walk_at "vr") (Rd.c (Rd.ixT (by walk_at "hpt") (by walk_at "vr") (Rd.cons (Rd.op (Rd.var (by walk_at "vr") (Rd.c ?_)))))))))))
      with_reducible refine Rd.ixT (by walk_at "hpt") (by walk_at "vr") (Rd.cons (Rd.make (Rd.cons (Rd.op (Rd.op (Rd.var (by walk_at "vr") (Rd.c (Rd.ixT (by walk_at "hpt") (by walk_at "vr") (Rd.c (Rd.ixT (by walk_at "hpt") (by walk_at "vr") (Rd.cons ?_)))))))))))
      with_reducible refine Rd.op (Rd.op (Rd.var (by walk_at "vr") (Rd.c (Rd.ixT (by walk_at "hpt") (by walk_at "vr") (Rd.c (Rd.ixT (by walk_at "hpt") (by walk_at "vr") (Rd.nil ?_)))))))
      intro x2 dx2 nx2 ndx2 ne2
      refine ⟨_, _, _, _, rfl, L2.upd_same, ?_⟩
      refine ⟨rfl, ?_⟩
      rw [L2.upd_upd]
      with_reducible refine Rd.nil (Rd.laid (by walk_at "ll") ?_)
      intro p0 np0
      with_reducible refine Rd.name ?_
      try dsimp only [Int.reduceToNat, List.set]
      with_reducible refine Rd.ret (Rd.mkK (Rd.cons (Rd.var (by walk_at "vr") (Rd.cons (Rd.var (by walk_at "vr") (Rd.cons (Rd.var (by walk_at "vr") (Rd.cons (Rd.var (by walk_at "vr") (Rd.cons (Rd.var (by walk_at "vr") ?_)))))))))))
      with_reducible refine Rd.nil ?_
      refine ⟨rfl, rfl, ?_⟩
      intro x3 dx3 nx3 ndx3 ne3
      refine ⟨_, _, _, _, (⟨.form s b, sl, em, .lim kk g s2 b2, wn⟩ : Pt), rfl, L2.upd_same, ⟨_, _, rfl, (by walk_at "hp")⟩, ⟨_, _, _, rfl, (by walk_at "hp"), (by walk_at "hp")⟩, wf, fun d3 H3 F3 nd3 a3 b3 => ⟨rfl, ?_⟩⟩
      exact k _ _ (by walk_at "frm") (by walk_at "nn") ⟨_, _, _, _, (by assumption), (by assumption), ⟨_, _, rfl, (by walk_at "hp")⟩, ⟨_, _, _, rfl, (by walk_at "hp"), (by walk_at "hp")⟩⟩
/-! _law_power -/
theorem sc_l_power : FnScope ["_law_many", "_law_found", "_law_k"] ["_law_many"] (defScope s_l_power) := ⟨rfl, rfl, rfl, by decide +kernel, rfl, by decide +kernel, by decide +kernel⟩
theorem st_l_power {v0 : V} : L2.start ["_law_many", "_law_found", "_law_k"] [v0] = [some v0, none, none] := rfl
abbrev sp_l_power (K : PySem.W.Frag) (A : Adr) : Sp := fun vs H Q _ => ∃ m : Int, vs = [.int m] ∧ 0 ≤ m ∧ m ≤ 100 ∧ Q (.int (2 ^ m.toNat)) H
theorem ok_l_power (T : Txt w K mg A) : FnOk P w K mg base CX0 1 A.f_l_power A.d_l_power ["_law_many"] (sp_l_power K A) := by
  refine T.F_l_power.ok sc_l_power (fun vs H Q E h => ?_) (fun cdv Ar outer s H vs Q E hr h => ?_)
  · obtain ⟨m, rfl, m1, m2, k⟩ := h
    rfl
  · obtain ⟨m, rfl, m1, m2, k⟩ := h
    have hu := hu_of hr
    have t_q_PART_NAMES := T.q_PART_NAMES
    have t_q_PART_WORDS_slot := T.q_PART_WORDS_slot
    have t_d_PART_WORDS_slot := T.d_PART_WORDS_slot
    have t_q_PART_WORDS_empty := T.q_PART_WORDS_empty
    have t_d_PART_WORDS_empty := T.d_PART_WORDS_empty
    have t_q_PART_WORDS_when := T.q_PART_WORDS_when
    have t_d_PART_WORDS_when := T.d_PART_WORDS_when
    have t_q_MEASURES := T.q_MEASURES
    have t_q_SIGNS := T.q_SIGNS
    have t_q_PLAIN_FULLS := T.q_PLAIN_FULLS
    have t_i_Form := T.i_Form
    have t_kt_Form_Form := T.kt_Form_Form
    have t_kt_int_Form := T.kt_int_Form
    have t_nf_Form_Form := T.nf_Form_Form
    have t_nf_int_Form := T.nf_int_Form
    have t_xm_NoSize_NoSize := T.xm_NoSize_NoSize
    have t_xm_NoRing_NoSize := T.xm_NoRing_NoSize
    have t_xm_NoRing_NoRing := T.xm_NoRing_NoRing
    have t_xm_NotDecided_NoSize := T.xm_NotDecided_NoSize
    have t_xm_NotDecided_NoRing := T.xm_NotDecided_NoRing
    have t_xm_NotDecided_NotDecided := T.xm_NotDecided_NotDecided
    have t_xm_NoLag_NoSize := T.xm_NoLag_NoSize
    have t_xm_NoLag_NoRing := T.xm_NoLag_NoRing
    have t_xm_NoLag_NotDecided := T.xm_NoLag_NotDecided
    have t_xm_NoLag_NoLag := T.xm_NoLag_NoLag
    have t_xm_Outside_Outside := T.xm_Outside_Outside
    have t_k_Form := T.k_Form
    have t_k_Scheme := T.k_Scheme
    have t_k_Log := T.k_Log
    refine ⟨_, (pss_cons (ps_set (i := 1) sc_l_power.nd rfl (Or.inl rfl) pe_int)
      (pss_cons (ps_for PassesOwn.never rfl (pi_range1 (by rfl) T.n_range (pa_cons (pv 0) pa_nil)) (pg_name (i := 2) sc_l_power.nd rfl (Or.inl rfl)) (pss_one (ps_set (i := 1) sc_l_power.nd rfl (Or.inl rfl) (pe_op op_mulW (pv 1) pe_int))))
      (pss_one (ps_ret (pv 1))))), ?_⟩
    try dsimp only [L2.cxOf, L2.Cx.nox, L2.Cx.wish]
    try rw [st_l_power]
    with_reducible refine Rd.seq (Rd.asg (Rd.c (Rd.name ?_)))
    try dsimp only [Int.reduceToNat, List.set]
    with_reducible refine Rd.seq (Rd.fr (Rd.rng1 (Rd.cons (Rd.var (by walk_at "vr") (Rd.nil (⟨_, rfl, (by walk_at "sc"), (by walk_at "sc"), ?_⟩))))))
    refine for_range (lo := 0) (fun (i : Nat) (σ : L2.St) (H' : Hp) => ∃ vt : Option V, σ = [some (.int m), some (.int (2 ^ i)), vt] ∧ H' = H) ⟨_, rfl, rfl⟩ (fun i σ H0 hi ⟨vt, es, eh⟩ => ?_) (fun σ H0 ⟨vt, es, eh⟩ => ?_)
    · subst es eh
      have pw := pow_le3 (i := i) (by omega)
      have pp := pow_pos3 i
      with_reducible refine Rd.name (Rd.asg (Rd.op (Rd.var (by walk_at "vr") (Rd.c (Rd.iC (by walk_at "scm") (Rd.name ?_))))))
      try dsimp only [Int.reduceToNat, List.set]
      exact ⟨_, by rw [Int.pow_succ], rfl⟩
    · subst es eh
      with_reducible refine Rd.ret (Rd.var (by walk_at "vr") ?_)
      exact k
/-! _law_setting -/
theorem sc_l_setting : FnScope ["_law_pool_here", "_law_many", "_law_brim", "_law_bare", "_law_n", "_law_more", "_law_kind", "_law_modulus", "_law_rule", "_law_wide_here"] ["_law_pool_here"] (defScope s_l_setting) := ⟨rfl, rfl, rfl, by decide +kernel, rfl, by decide +kernel, by decide +kernel⟩
theorem st_l_setting {v0 : V} : L2.start ["_law_pool_here", "_law_many", "_law_brim", "_law_bare", "_law_n", "_law_more", "_law_kind", "_law_modulus", "_law_rule", "_law_wide_here"] [v0] = [some v0, none, none, none, none, none, none, none, none, none] := rfl
abbrev sp_l_setting (K : PySem.W.Frag) (A : Adr) : Sp := fun vs H Q _ => ∃ (a : Addr) (o : HO), vs = [.ref a] ∧ H a = some o ∧ PoolO H a o ∧ ∀ (q pr : Addr) (vt vf : V) (t : Pt) (n M : Int) (o' : HO) (H' : Hp), Frm a H H' → H' a = some o' → PoolO H' a o' → H' q = some (.tup [.ref pr, .int n, .int M]) → H' pr = some (.tup [vt, .str t.slot, .str t.empty, vf]) → M = modV t.wrap n → IsTurn H' vt t.wrap → IsFill H' vf t.full → Wf t → 1 ≤ n → n ≤ 1000000000000000000000000000000 → 1 ≤ M → M ≤ 5000000000000000000000000000000 → Good t n → (∀ m, 1 ≤ m → 1 ≤ modV t.wrap m) → Q (.ref q) H'
theorem ok_l_setting (T : Txt w K mg A) : FnOk P w K mg base CX0 4 A.f_l_setting A.d_l_setting ["_law_pool_here"] (sp_l_setting K A) := by
  refine T.F_l_setting.ok sc_l_setting (fun vs H Q E h => ?_) (fun cdv Ar outer s H vs Q E hr h => ?_)
  · obtain ⟨a, o, rfl, ha, ho, k⟩ := h
    rfl
  · obtain ⟨a, o, rfl, ha, ho, k⟩ := h
    have hu := hu_of hr
    have t_q_PART_NAMES := T.q_PART_NAMES
    have t_q_PART_WORDS_slot := T.q_PART_WORDS_slot
    have t_d_PART_WORDS_slot := T.d_PART_WORDS_slot
    have t_q_PART_WORDS_empty := T.q_PART_WORDS_empty
    have t_d_PART_WORDS_empty := T.d_PART_WORDS_empty
    have t_q_PART_WORDS_when := T.q_PART_WORDS_when
    have t_d_PART_WORDS_when := T.d_PART_WORDS_when
    have t_q_MEASURES := T.q_MEASURES
    have t_q_SIGNS := T.q_SIGNS
    have t_q_PLAIN_FULLS := T.q_PLAIN_FULLS
    have t_i_Form := T.i_Form
    have t_kt_Form_Form := T.kt_Form_Form
    have t_kt_int_Form := T.kt_int_Form
    have t_nf_Form_Form := T.nf_Form_Form
    have t_nf_int_Form := T.nf_int_Form
    have t_xm_NoSize_NoSize := T.xm_NoSize_NoSize
    have t_xm_NoRing_NoSize := T.xm_NoRing_NoSize
    have t_xm_NoRing_NoRing := T.xm_NoRing_NoRing
    have t_xm_NotDecided_NoSize := T.xm_NotDecided_NoSize
    have t_xm_NotDecided_NoRing := T.xm_NotDecided_NoRing
    have t_xm_NotDecided_NotDecided := T.xm_NotDecided_NotDecided
    have t_xm_NoLag_NoSize := T.xm_NoLag_NoSize
    have t_xm_NoLag_NoRing := T.xm_NoLag_NoRing
    have t_xm_NoLag_NotDecided := T.xm_NoLag_NotDecided
    have t_xm_NoLag_NoLag := T.xm_NoLag_NoLag
    have t_xm_Outside_Outside := T.xm_Outside_Outside
    have t_k_Form := T.k_Form
    have t_k_Scheme := T.k_Scheme
    have t_k_Log := T.k_Log
    have e30 : (10 : Int) ^ Int.toNat 30 = 1000000000000000000000000000000 := by decide +kernel
    refine ⟨_, (pss_cons (ps_set (i := 1) sc_l_setting.nd rfl (Or.inl rfl) (pe_op op_add pe_int (pe_call (ok_l_draw T) (hr.mono (by decide)) (by rfl) T.m_l_draw T.F_l_draw.kp T.b_l_draw .nil pass0 (pa_cons (pv 0) (pa_cons pe_int pa_nil)))))
      (pss_cons (ps_set (i := 2) sc_l_setting.nd rfl (Or.inl rfl) (pe_ix (Rd.ixTK rfl) (pe_tup (pa_cons (pe_tup (pa_cons pe_str pa_nil)) (pa_cons (pe_tup (pa_cons pe_str pa_nil)) (pa_cons (pe_tup (pa_cons pe_str (pa_cons pe_str (pa_cons (pe_tup (pa_cons pe_int (pa_cons pe_int pa_nil))) pa_nil)))) (pa_cons (pe_tup (pa_cons pe_str (pa_cons pe_str (pa_cons (pe_tup (pa_cons pe_int (pa_cons pe_int pa_nil))) pa_nil)))) pa_nil))))) (pe_call (ok_l_draw T) (hr.mono (by decide)) (by rfl) T.m_l_draw T.F_l_draw.kp T.b_l_draw .nil pass0 (pa_cons (pv 0) (pa_cons pe_int pa_nil))) (fun _ _ => rfl)))
      (pss_cons (ps_set (i := 3) sc_l_setting.nd rfl (Or.inl rfl) (pe_ix (Rd.ixTK rfl) (pe_tup (pa_cons pe_str (pa_cons pe_str (pa_cons pe_str pa_nil)))) (pe_call (ok_l_draw T) (hr.mono (by decide)) (by rfl) T.m_l_draw T.F_l_draw.kp T.b_l_draw .nil pass0 (pa_cons (pv 0) (pa_cons pe_int pa_nil))) (fun _ _ => rfl)))
      (pss_cons (ps_if (pt_cmpR op_eq (pe_call (ok_l_draw T) (hr.mono (by decide)) (by rfl) T.m_l_draw T.F_l_draw.kp T.b_l_draw .nil pass0 (pa_cons (pv 0) (pa_cons pe_int pa_nil))) pe_int (nomark _)) (pss_cons (ps_set (i := 4) sc_l_setting.nd rfl (Or.inl rfl) (pe_op op_add pe_int (pe_call (ok_l_draw T) (hr.mono (by decide)) (by rfl) T.m_l_draw T.F_l_draw.kp T.b_l_draw .nil pass0 (pa_cons (pv 0) (pa_cons pe_int pa_nil)))))
      (pss_cons (ps_set (i := 5) sc_l_setting.nd rfl (Or.inl rfl) pe_int)
      (pss_cons (ps_set (i := 6) sc_l_setting.nd rfl (Or.inl rfl) (pe_call (ok_l_draw T) (hr.mono (by decide)) (by rfl) T.m_l_draw T.F_l_draw.kp T.b_l_draw .nil pass0 (pa_cons (pv 0) (pa_cons pe_int pa_nil))))
      (pss_cons (ps_if (pt_cmpR op_eq (pv 6) pe_int (nomark _)) (pss_one (ps_set (i := 5) sc_l_setting.nd rfl (Or.inl rfl) (pe_op op_mulW (pv 4) (pe_op op_mod (pe_callTy call_int1 (by rfl) T.n_int (by decide +kernel) (pa_cons (pe_call (ok_l_draw T) (hr.mono (by decide)) (by rfl) T.m_l_draw T.F_l_draw.kp T.b_l_draw .nil pass0 (pa_cons (pv 0) (pa_cons pe_int pa_nil))) pa_nil)) (pe_op op_add pe_int (pe_op op_fdivW pe_int (pv 4))))))) pss_nil) (pss_cons (ps_if (pt_cmpR op_eq (pv 6) pe_int (nomark _)) (pss_one (ps_set (i := 4) sc_l_setting.nd rfl (Or.inl rfl) (pe_op op_add pe_int (pe_call (ok_l_wide T) (hr.mono (by decide)) (by rfl) T.m_l_wide T.F_l_wide.kp T.b_l_wide .nil pass0 (pa_cons (pv 0) (pa_cons (pe_op op_sub (pe_op op_pow pe_int pe_int) pe_int) pa_nil)))))) pss_nil) (pss_cons (ps_set (i := 7) sc_l_setting.nd rfl (Or.inl rfl) (pe_op op_add (pe_op op_mulW (pv 1) (pv 4)) (pv 5))) (pss_cons (ps_set (i := 8) sc_l_setting.nd rfl (Or.inl rfl) (pe_ix (Rd.ixTK rfl) (pe_tup (pa_cons pe_str (pa_cons pe_str pa_nil))) (pe_op op_mulW (pe_callTy call_int1 (by rfl) T.n_int (by decide +kernel) (pa_cons (pe_cmpR op_le (pv 7) (pe_op op_mulW pe_int (pv 4)) (nomark _)) pa_nil)) (pe_call (ok_l_draw T) (hr.mono (by decide)) (by rfl) T.m_l_draw T.F_l_draw.kp T.b_l_draw .nil pass0 (pa_cons (pv 0) (pa_cons pe_int pa_nil)))) (fun _ _ => rfl))) (pss_one (ps_ret (pe_tup (pa_cons (pe_tup (pa_cons (pe_tup (pa_cons (pv 1) (pa_cons (pv 5) pa_nil))) (pa_cons (pv 8) (pa_cons (pv 3) (pa_cons (pv 2) pa_nil))))) (pa_cons (pv 4) (pa_cons (pv 7) pa_nil))))))))))))) pss_nil)
      (pss_cons (ps_set (i := 9) sc_l_setting.nd rfl (Or.inl rfl) (pe_op op_add pe_int (pe_ix (Rd.ixTK rfl) (pe_tup (pa_cons (pe_call (ok_l_draw T) (hr.mono (by decide)) (by rfl) T.m_l_draw T.F_l_draw.kp T.b_l_draw .nil pass0 (pa_cons (pv 0) (pa_cons pe_int pa_nil))) (pa_cons (pe_call (ok_l_draw T) (hr.mono (by decide)) (by rfl) T.m_l_draw T.F_l_draw.kp T.b_l_draw .nil pass0 (pa_cons (pv 0) (pa_cons pe_int pa_nil))) pa_nil))) (pe_call (ok_l_draw T) (hr.mono (by decide)) (by rfl) T.m_l_draw T.F_l_draw.kp T.b_l_draw .nil pass0 (pa_cons (pv 0) (pa_cons pe_int pa_nil))) (fun _ _ => rfl))))
      (pss_cons (ps_set (i := 7) sc_l_setting.nd rfl (Or.inl rfl) (pe_call (ok_l_power T) (hr.mono (by decide)) (by rfl) T.m_l_power T.F_l_power.kp T.b_l_power .nil pass0 (pa_cons (pv 9) pa_nil)))
      (pss_cons (ps_set (i := 4) sc_l_setting.nd rfl (Or.inl rfl) (pe_call (ok_l_power T) (hr.mono (by decide)) (by rfl) T.m_l_power T.F_l_power.kp T.b_l_power .nil pass0 (pa_cons (pe_op op_mod (pe_callTy call_int1 (by rfl) T.n_int (by decide +kernel) (pa_cons (pe_call (ok_l_draw T) (hr.mono (by decide)) (by rfl) T.m_l_draw T.F_l_draw.kp T.b_l_draw .nil pass0 (pa_cons (pv 0) (pa_cons pe_int pa_nil))) pa_nil)) (pe_op op_add (pv 9) (pe_callTy call_int1 (by rfl) T.n_int (by decide +kernel) (pa_cons (pe_cmpR op_lt (pv 9) pe_int (nomark _)) pa_nil)))) pa_nil)))
      (pss_cons (ps_set (i := 8) sc_l_setting.nd rfl (Or.inl rfl) (pe_ix (Rd.ixTK rfl) (pe_tup (pa_cons pe_str (pa_cons pe_str (pa_cons pe_str pa_nil)))) (pe_call (ok_l_draw T) (hr.mono (by decide)) (by rfl) T.m_l_draw T.F_l_draw.kp T.b_l_draw .nil pass0 (pa_cons (pv 0) (pa_cons (pe_op op_add pe_int (pe_callTy call_int1 (by rfl) T.n_int (by decide +kernel) (pa_cons (pe_cmpR op_le (pv 7) (pe_op op_mulW pe_int (pv 4)) (nomark _)) pa_nil))) pa_nil))) (fun _ _ => rfl)))
      (pss_one (ps_ret (pe_tup (pa_cons (pe_tup (pa_cons (pv 9) (pa_cons (pv 8) (pa_cons (pv 3) (pa_cons (pv 2) pa_nil))))) (pa_cons (pv 4) (pa_cons (pv 7) pa_nil)))))))))))))), ?_⟩
    try dsimp only [L2.cxOf, L2.Cx.nox, L2.Cx.wish]
    try rw [st_l_setting]
    with_reducible refine Rd.seq (Rd.asg (Rd.op (Rd.c (Rd.call (Rd.cons (Rd.var (by walk_at "vr") (Rd.cons (Rd.c (Rd.nil ?_)))))))))
    refine ⟨_, _, _, rfl, (by walk_at "hp"), (by walk_at "pool"), (by walk_at "sc"), (by walk_at "sc"), fun d1 o1 d1a d1b s1 => ?_⟩
    with_reducible refine Rd.i0 (Rd.name ?_)
    try dsimp only [Int.reduceToNat, List.set]
    with_reducible refine Rd.seq (Rd.asg (Rd.op (Rd.tup (Rd.cons (Rd.tup (Rd.cons (Rd.c (Rd.nil (Rd.laid (by walk_at "ll") ?_)))))))))
    intro p1 np1
    have ap_p1_a : p1 ≠ a := ne_none' np1 (by walk_at "hp")
    with_reducible refine Rd.cons (Rd.tup (Rd.cons (Rd.c (Rd.nil (Rd.laid (by walk_at "ll") ?_)))))
    intro p2 np2
    have ap_p2_a : p2 ≠ a := ne_none' np2 (by walk_at "hp")
    with_reducible refine Rd.cons (Rd.tup (Rd.cons (Rd.c (Rd.cons (Rd.c (Rd.cons (Rd.tup (Rd.cons (Rd.c (Rd.cons (Rd.c ?_)))))))))))
    with_reducible refine Rd.nil (Rd.laid (by walk_at "ll") ?_)
    intro p4 np4
    have ap_p4_a : p4 ≠ a := ne_none' np4 (by walk_at "hp")
    with_reducible refine Rd.nil (Rd.laid (by walk_at "ll") ?_)
    intro p3 np3
    have ap_p3_a : p3 ≠ a := ne_none' np3 (by walk_at "hp")
    with_reducible refine Rd.cons (Rd.tup (Rd.cons (Rd.c (Rd.cons (Rd.c (Rd.cons (Rd.tup (Rd.cons (Rd.c (Rd.cons (Rd.c ?_)))))))))))
    with_reducible refine Rd.nil (Rd.laid (by walk_at "ll") ?_)
    intro p6 np6
    have ap_p6_a : p6 ≠ a := ne_none' np6 (by walk_at "hp")
    with_reducible refine Rd.nil (Rd.laid (by walk_at "ll") ?_)
    intro p5 np5
    have ap_p5_a : p5 ≠ a := ne_none' np5 (by walk_at "hp")
    with_reducible refine Rd.nil (Rd.laid (by walk_at "ll") ?_)
    intro p0 np0
    have ap_p0_a : p0 ≠ a := ne_none' np0 (by walk_at "hp")
    with_reducible refine Rd.call (Rd.cons (Rd.var (by walk_at "vr") (Rd.cons (Rd.c (Rd.nil ?_)))))
    refine ⟨_, _, _, rfl, (by walk_at "hp"), (by walk_at "pool"), (by walk_at "sc"), (by walk_at "sc"), fun d2 o2 d2a d2b s2 => ?_⟩
    refine Rd.pickTH (fun Hx v => ∃ f, IsFill Hx v f ∧ WfF f) (by walk_at "hpt") ?_ (by omega) (by show (_ : Int) < ((4 : Nat) : Int); omega) (fun v_f hv_f => ?_)
    · intro v hv
      simp only [List.mem_cons, List.not_mem_nil, or_false] at hv
      rcases hv with rfl | rfl | rfl | rfl
      · exact ⟨.plain _, ⟨_, rfl, (by walk_at "hp")⟩, (show ("next" : Str) ∈ wPlain by decide +kernel)⟩
      · exact ⟨.plain _, ⟨_, rfl, (by walk_at "hp")⟩, (show ("note" : Str) ∈ wPlain by decide +kernel)⟩
      · exact ⟨.lim _ _ _ _, ⟨_, _, rfl, (by walk_at "hp"), (by walk_at "hp")⟩, (by decide +kernel), (by decide +kernel), by decide, by decide, by decide, by decide⟩
      · exact ⟨.lim _ _ _ _, ⟨_, _, rfl, (by walk_at "hp"), (by walk_at "hp")⟩, (by decide +kernel), (by decide +kernel), by decide, by decide, by decide, by decide⟩
    obtain ⟨fl, ifl, wfl⟩ := hv_f
    with_reducible refine Rd.name ?_
    try dsimp only [Int.reduceToNat, List.set]
    refine Rd.comp (fun Hx => Frm a H Hx ∧ Hx a = some o2 ∧ PoolO Hx a o2 ∧ IsFill Hx v_f fl) ⟨by walk_at "frm", by walk_at "hp", s2, ifl⟩ (fun Hb ⟨Fb, rb, sb, ifl⟩ => ?_)
    clear np0 np1 np2 np3 np4 np5 np6 ap_p0_a ap_p1_a ap_p2_a ap_p3_a ap_p4_a ap_p5_a ap_p6_a s1 s2
    with_reducible refine Rd.seq (Rd.asg (Rd.op (Rd.tup (Rd.cons (Rd.c (Rd.cons (Rd.c (Rd.cons (Rd.c (Rd.nil (Rd.laid (by walk_at "ll") ?_)))))))))))
    intro p7 np7
    have ap_p7_a : p7 ≠ a := ne_none' np7 (by walk_at "hp")
    with_reducible refine Rd.call (Rd.cons (Rd.var (by walk_at "vr") (Rd.cons (Rd.c (Rd.nil ?_)))))
    refine ⟨_, _, _, rfl, (by walk_at "hp"), (by walk_at "pool"), (by walk_at "sc"), (by walk_at "sc"), fun dT oT dTa dTb sT => ?_⟩
    refine Rd.pickT (fun v => ∃ s : Str, v = .str s ∧ s ∈ wEmpty) (by walk_at "hpt") (by intro v hv; simp only [List.mem_cons, List.not_mem_nil, or_false] at hv; rcases hv with rfl | rfl | rfl <;> exact ⟨_, rfl, (by decide +kernel)⟩) (by omega) (by show (_ : Int) < ((3 : Nat) : Int); omega) (fun v_e hv_e => ?_)
    obtain ⟨em, rfl, hem⟩ := hv_e
    with_reducible refine Rd.name ?_
    try dsimp only [Int.reduceToNat, List.set]
    with_reducible refine Rd.seq (Rd.ifS (Rd.test (Rd.op (Rd.call (Rd.cons (Rd.var (by walk_at "vr") (Rd.cons (Rd.c (Rd.nil ?_)))))))))
    refine ⟨_, _, _, rfl, (by walk_at "hp"), (by walk_at "pool"), (by walk_at "sc"), (by walk_at "sc"), fun dR oR dRa dRb sR => ?_⟩
    with_reducible refine Rd.c (Rd.eqS (by walk_at "vr") (Rd.bl ?_))
    refine Rd.ite (fun h0 => ?_) (fun h0 => ?_)
    · try simp only [decide_eq_true_eq, Bool.not_eq_true', decide_eq_false_iff_not, Bool.not_eq_true, Bool.not_eq_eq_eq_not, Bool.not_true, Bool.not_false] at h0
      with_reducible refine Rd.seq (Rd.asg (Rd.op (Rd.c (Rd.call (Rd.cons (Rd.var (by walk_at "vr") (Rd.cons (Rd.c (Rd.nil ?_)))))))))
      refine ⟨_, _, _, rfl, (by walk_at "hp"), (by walk_at "pool"), (by walk_at "sc"), (by walk_at "sc"), fun d5 o5 d5a d5b s5 => ?_⟩
      with_reducible refine Rd.i0 (Rd.name ?_)
      try dsimp only [Int.reduceToNat, List.set]
      with_reducible refine Rd.seq (Rd.asg (Rd.c (Rd.name ?_)))
      try dsimp only [Int.reduceToNat, List.set]
      with_reducible refine Rd.seq (Rd.asg (Rd.call (Rd.cons (Rd.var (by walk_at "vr") (Rd.cons (Rd.c (Rd.nil ?_)))))))
      refine ⟨_, _, _, rfl, (by walk_at "hp"), (by walk_at "pool"), (by walk_at "sc"), (by walk_at "sc"), fun dT oT dTa dTb sT => ?_⟩
      with_reducible refine Rd.name ?_
      try dsimp only [Int.reduceToNat, List.set]
      rcases (by omega : dT = 0 ∨ dT = 1 ∨ dT = 2) with rfl | rfl | rfl
      · with_reducible refine Rd.seq (Rd.ifS (Rd.test (Rd.op (Rd.var (by walk_at "vr") (Rd.c (Rd.eqS (by walk_at "vr") (Rd.bl (Rd.iteT (by walk_at "bT") (Rd.asg (Rd.op (Rd.var (by walk_at "vr") ?_)))))))))))
        with_reducible refine Rd.op (Rd.cB (Rd.cons (Rd.call (Rd.cons (Rd.var (by walk_at "vr") (Rd.cons (Rd.c (Rd.nil ?_))))))))
        refine ⟨_, _, _, rfl, (by walk_at "hp"), (by walk_at "pool"), (by walk_at "sc"), (by walk_at "sc"), fun dM oM dMa dMb sM => ?_⟩
        obtain ⟨q20, m20, m21⟩ := more2 (n := 1 + d5) (d := dM) (by omega)
        with_reducible refine Rd.nil ((.inl ⟨_, rfl, (Rd.op (Rd.c (Rd.op (Rd.c (Rd.var (by walk_at "vr") (Rd.iC (by walk_at "scd") (Rd.i0 (Rd.iC (by walk_at "sc") (Rd.iC (by walk_at "scm") (Rd.name ?_))))))))))⟩))
        try dsimp only [Int.reduceToNat, List.set]
        obtain ⟨mv, emv, mv0, mv1, mvd⟩ : ∃ mv : Int, mv = (1 + d5) * (dM % (1 + 20 / (1 + d5))) ∧ 0 ≤ mv ∧ mv ≤ 20 ∧ mv % (1 + d5) = 0 := ⟨_, rfl, (more_ok (by omega) dMa).1, (more_ok (by omega) dMa).2, Int.mul_emod_right _ _⟩
        rw [← emv]
        with_reducible refine Rd.seq (Rd.ifS (Rd.test (Rd.op (Rd.var (by walk_at "vr") (Rd.c (Rd.eqS (by walk_at "vr") (Rd.bl (Rd.iteF (by walk_at "bF") (Rd.next (Rd.seq (Rd.asg ?_)))))))))))
        with_reducible refine Rd.op (Rd.op (Rd.var (by walk_at "vr") (Rd.var (by walk_at "vr") (Rd.iC (by walk_at "scm") (Rd.var (by walk_at "vr") (Rd.i0 (Rd.name ?_)))))))
        try dsimp only [Int.reduceToNat, List.set]
        with_reducible refine Rd.seq (Rd.asg (Rd.op (Rd.tup (Rd.cons (Rd.c (Rd.cons (Rd.c (Rd.nil (Rd.laid (by walk_at "ll") ?_)))))))))
        intro p8 np8
        have ap_p8_a : p8 ≠ a := ne_none' np8 (by walk_at "hp")
        with_reducible refine Rd.op (Rd.cB (Rd.cons (Rd.op (Rd.var (by walk_at "vr") (Rd.op (Rd.c (Rd.var (by walk_at "vr") (Rd.iC (by walk_at "scm") (Rd.i0 (Rd.nil ((.inr ⟨_, rfl, ?_⟩))))))))))))
        with_reducible refine Rd.call (Rd.cons (Rd.var (by walk_at "vr") (Rd.cons (Rd.c (Rd.nil ?_)))))
        refine ⟨_, _, _, rfl, (by walk_at "hp"), (by walk_at "pool"), (by walk_at "sc"), (by walk_at "sc"), fun dR oR dRa dRb sR => ?_⟩
        with_reducible refine Rd.iC (by walk_at "scm") ?_
        have ixo := idx_ok (b := decide ((1 + d1) * (1 + d5) + mv ≤ 2 * (1 + d5))) dRa dRb
        refine Rd.pickTd (fun v => ∃ s : Str, v = .str s ∧ s ∈ wSlot ∧ s ≠ "mask" ∧ (s = "off" → (1 + d1) * (1 + d5) + mv ≤ 2 * (1 + d5))) (by walk_at "hpt") ixo.1 (by exact ixo.2.1) ?_ (fun v_r hv_r => ?_)
        · intro j v hj e
          match j, hj with
          | 0, hj => cases hj; exact ⟨_, rfl, by decide +kernel, by decide +kernel, fun z => absurd z (by decide +kernel)⟩
          | 1, hj => cases hj; exact ⟨_, rfl, by decide +kernel, by decide +kernel, fun _ => of_decide_eq_true (ixo.2.2 e)⟩
        obtain ⟨ru, rfl, hru, hnm, hof⟩ := hv_r
        with_reducible refine Rd.name ?_
        try dsimp only [Int.reduceToNat, List.set]
        with_reducible refine Rd.ret (Rd.tup (Rd.cons (Rd.tup (Rd.cons (Rd.tup (Rd.cons (Rd.var (by walk_at "vr") (Rd.cons (Rd.var (by walk_at "vr") (Rd.nil (Rd.laid (by walk_at "ll") ?_)))))))))))
        intro p11 np11
        have ap_p11_a : p11 ≠ a := ne_none' np11 (by walk_at "hp")
        with_reducible refine Rd.cons (Rd.var (by walk_at "vr") (Rd.cons (Rd.var (by walk_at "vr") (Rd.cons (Rd.var (by walk_at "vr") (Rd.nil (Rd.laid (by walk_at "ll") ?_)))))))
        intro p10 np10
        have ap_p10_a : p10 ≠ a := ne_none' np10 (by walk_at "hp")
        with_reducible refine Rd.cons (Rd.var (by walk_at "vr") (Rd.cons (Rd.var (by walk_at "vr") (Rd.nil (Rd.laid (by walk_at "ll") ?_)))))
        intro p9 np9
        have ap_p9_a : p9 ≠ a := ne_none' np9 (by walk_at "hp")
        have mm := mul_le3 (a := 1 + d1) (n := (1 + d5)) (by omega) (by omega) (by omega)
        refine k _ _ _ _ ⟨.form (1 + d1) mv, ru, em, fl, "refuse"⟩ _ _ _ _ (by walk_at "frm") (by walk_at "hp") (by walk_at "pool") (by walk_at "hp") (by walk_at "hp") ?_ ?_ ?_ ?_ ?_ ?_ ?_ ?_ ?_ ?_
        · exact rfl
        · exact ⟨_, rfl, (by walk_at "hp")⟩
        · exact ifl.keep (Frm.tups (by walk_at "frm") rb sb)
        · exact (wfr ⟨by omega, by omega, by omega, by omega⟩ hru hem wfl (show ("refuse" : Str) ∈ wWhen by decide +kernel) (fun _ _ _ => hnm))
        · omega
        · omega
        · omega
        · omega
        · exact ⟨mod_ok mvd, fun z => by have z1 := hof z.1; have z2 : 2 * (1 + d5) < (1 + d1) * (1 + d5) + mv := z.2; omega⟩
        · exact fun m h => by have := (mul_le3 (a := 1 + d1) (n := m) (by omega) (by omega) h).1; show 1 ≤ (1 + d1) * m + mv; omega
      · with_reducible refine Rd.seq (Rd.ifS (Rd.test (Rd.op (Rd.var (by walk_at "vr") (Rd.c (Rd.eqS (by walk_at "vr") (Rd.bl (Rd.iteF (by walk_at "bF") (Rd.next (Rd.seq (Rd.ifS ?_)))))))))))
        with_reducible refine Rd.test (Rd.op (Rd.var (by walk_at "vr") (Rd.c (Rd.eqS (by walk_at "vr") (Rd.bl (Rd.iteT (by walk_at "bT") (Rd.asg (Rd.op (Rd.c (Rd.call (Rd.cons ?_)))))))))))
        with_reducible refine Rd.var (by walk_at "vr") (Rd.cons (Rd.op (Rd.op (Rd.c (Rd.c (Rd.iC (by walk_at "scp") (Rd.c (Rd.i0 (Rd.nil ?_)))))))))
        refine ⟨_, _, _, rfl, (by walk_at "hp"), (by walk_at "pool"), (by first | omega | decide), (by first | omega | decide), fun dW oW dWa dWb sW => ?_⟩
        rw [e30] at dWb
        with_reducible refine Rd.i0 (Rd.name ?_)
        try dsimp only [Int.reduceToNat, List.set]
        with_reducible refine Rd.seq (Rd.asg (Rd.op (Rd.op (Rd.var (by walk_at "vr") (Rd.var (by walk_at "vr") (Rd.iC (by walk_at "scm") (Rd.var (by walk_at "vr") (Rd.i0 (Rd.name ?_)))))))))
        try dsimp only [Int.reduceToNat, List.set]
        with_reducible refine Rd.seq (Rd.asg (Rd.op (Rd.tup (Rd.cons (Rd.c (Rd.cons (Rd.c (Rd.nil (Rd.laid (by walk_at "ll") ?_)))))))))
        intro p8 np8
        have ap_p8_a : p8 ≠ a := ne_none' np8 (by walk_at "hp")
        with_reducible refine Rd.op (Rd.cB (Rd.cons (Rd.op (Rd.var (by walk_at "vr") (Rd.op (Rd.c (Rd.var (by walk_at "vr") (Rd.iC (by walk_at "scm") (Rd.i0 (Rd.nil ((.inr ⟨_, rfl, ?_⟩))))))))))))
        with_reducible refine Rd.call (Rd.cons (Rd.var (by walk_at "vr") (Rd.cons (Rd.c (Rd.nil ?_)))))
        refine ⟨_, _, _, rfl, (by walk_at "hp"), (by walk_at "pool"), (by walk_at "sc"), (by walk_at "sc"), fun dR oR dRa dRb sR => ?_⟩
        with_reducible refine Rd.iC (by walk_at "scm") ?_
        have ixo := idx_ok (b := decide ((1 + d1) * (1 + dW) + 0 ≤ 2 * (1 + dW))) dRa dRb
        refine Rd.pickTd (fun v => ∃ s : Str, v = .str s ∧ s ∈ wSlot ∧ s ≠ "mask" ∧ (s = "off" → (1 + d1) * (1 + dW) + 0 ≤ 2 * (1 + dW))) (by walk_at "hpt") ixo.1 (by exact ixo.2.1) ?_ (fun v_r hv_r => ?_)
        · intro j v hj e
          match j, hj with
          | 0, hj => cases hj; exact ⟨_, rfl, by decide +kernel, by decide +kernel, fun z => absurd z (by decide +kernel)⟩
          | 1, hj => cases hj; exact ⟨_, rfl, by decide +kernel, by decide +kernel, fun _ => of_decide_eq_true (ixo.2.2 e)⟩
        obtain ⟨ru, rfl, hru, hnm, hof⟩ := hv_r
        with_reducible refine Rd.name ?_
        try dsimp only [Int.reduceToNat, List.set]
        with_reducible refine Rd.ret (Rd.tup (Rd.cons (Rd.tup (Rd.cons (Rd.tup (Rd.cons (Rd.var (by walk_at "vr") (Rd.cons (Rd.var (by walk_at "vr") (Rd.nil (Rd.laid (by walk_at "ll") ?_)))))))))))
        intro p11 np11
        have ap_p11_a : p11 ≠ a := ne_none' np11 (by walk_at "hp")
        with_reducible refine Rd.cons (Rd.var (by walk_at "vr") (Rd.cons (Rd.var (by walk_at "vr") (Rd.cons (Rd.var (by walk_at "vr") (Rd.nil (Rd.laid (by walk_at "ll") ?_)))))))
        intro p10 np10
        have ap_p10_a : p10 ≠ a := ne_none' np10 (by walk_at "hp")
        with_reducible refine Rd.cons (Rd.var (by walk_at "vr") (Rd.cons (Rd.var (by walk_at "vr") (Rd.nil (Rd.laid (by walk_at "ll") ?_)))))
        intro p9 np9
        have ap_p9_a : p9 ≠ a := ne_none' np9 (by walk_at "hp")
        have mm := mul_le3 (a := 1 + d1) (n := (1 + dW)) (by omega) (by omega) (by omega)
        refine k _ _ _ _ ⟨.form (1 + d1) 0, ru, em, fl, "refuse"⟩ _ _ _ _ (by walk_at "frm") (by walk_at "hp") (by walk_at "pool") (by walk_at "hp") (by walk_at "hp") ?_ ?_ ?_ ?_ ?_ ?_ ?_ ?_ ?_ ?_
        · exact rfl
        · exact ⟨_, rfl, (by walk_at "hp")⟩
        · exact ifl.keep (Frm.tups (by walk_at "frm") rb sb)
        · exact (wfr ⟨by omega, by omega, by omega, by omega⟩ hru hem wfl (show ("refuse" : Str) ∈ wWhen by decide +kernel) (fun _ _ _ => hnm))
        · omega
        · omega
        · omega
        · omega
        · exact ⟨mod_ok (Int.zero_emod _), fun z => by have z1 := hof z.1; have z2 : 2 * (1 + dW) < (1 + d1) * (1 + dW) + 0 := z.2; omega⟩
        · exact fun m h => by have := (mul_le3 (a := 1 + d1) (n := m) (by omega) (by omega) h).1; show 1 ≤ (1 + d1) * m + 0; omega
      · with_reducible refine Rd.seq (Rd.ifS (Rd.test (Rd.op (Rd.var (by walk_at "vr") (Rd.c (Rd.eqS (by walk_at "vr") (Rd.bl (Rd.iteF (by walk_at "bF") (Rd.next (Rd.seq (Rd.ifS ?_)))))))))))
        with_reducible refine Rd.test (Rd.op (Rd.var (by walk_at "vr") (Rd.c (Rd.eqS (by walk_at "vr") (Rd.bl (Rd.iteF (by walk_at "bF") (Rd.next (Rd.seq (Rd.asg (Rd.op (Rd.op ?_)))))))))))
        with_reducible refine Rd.var (by walk_at "vr") (Rd.var (by walk_at "vr") (Rd.iC (by walk_at "scm") (Rd.var (by walk_at "vr") (Rd.i0 (Rd.name ?_)))))
        try dsimp only [Int.reduceToNat, List.set]
        with_reducible refine Rd.seq (Rd.asg (Rd.op (Rd.tup (Rd.cons (Rd.c (Rd.cons (Rd.c (Rd.nil (Rd.laid (by walk_at "ll") ?_)))))))))
        intro p8 np8
        have ap_p8_a : p8 ≠ a := ne_none' np8 (by walk_at "hp")
        with_reducible refine Rd.op (Rd.cB (Rd.cons (Rd.op (Rd.var (by walk_at "vr") (Rd.op (Rd.c (Rd.var (by walk_at "vr") (Rd.iC (by walk_at "scm") (Rd.i0 (Rd.nil ((.inr ⟨_, rfl, ?_⟩))))))))))))
        with_reducible refine Rd.call (Rd.cons (Rd.var (by walk_at "vr") (Rd.cons (Rd.c (Rd.nil ?_)))))
        refine ⟨_, _, _, rfl, (by walk_at "hp"), (by walk_at "pool"), (by walk_at "sc"), (by walk_at "sc"), fun dR oR dRa dRb sR => ?_⟩
        with_reducible refine Rd.iC (by walk_at "scm") ?_
        have ixo := idx_ok (b := decide ((1 + d1) * (1 + d5) + 0 ≤ 2 * (1 + d5))) dRa dRb
        refine Rd.pickTd (fun v => ∃ s : Str, v = .str s ∧ s ∈ wSlot ∧ s ≠ "mask" ∧ (s = "off" → (1 + d1) * (1 + d5) + 0 ≤ 2 * (1 + d5))) (by walk_at "hpt") ixo.1 (by exact ixo.2.1) ?_ (fun v_r hv_r => ?_)
        · intro j v hj e
          match j, hj with
          | 0, hj => cases hj; exact ⟨_, rfl, by decide +kernel, by decide +kernel, fun z => absurd z (by decide +kernel)⟩
          | 1, hj => cases hj; exact ⟨_, rfl, by decide +kernel, by decide +kernel, fun _ => of_decide_eq_true (ixo.2.2 e)⟩
        obtain ⟨ru, rfl, hru, hnm, hof⟩ := hv_r
        with_reducible refine Rd.name ?_
        try dsimp only [Int.reduceToNat, List.set]
        with_reducible refine Rd.ret (Rd.tup (Rd.cons (Rd.tup (Rd.cons (Rd.tup (Rd.cons (Rd.var (by walk_at "vr") (Rd.cons (Rd.var (by walk_at "vr") (Rd.nil (Rd.laid (by walk_at "ll") ?_)))))))))))
        intro p11 np11
        have ap_p11_a : p11 ≠ a := ne_none' np11 (by walk_at "hp")
        with_reducible refine Rd.cons (Rd.var (by walk_at "vr") (Rd.cons (Rd.var (by walk_at "vr") (Rd.cons (Rd.var (by walk_at "vr") (Rd.nil (Rd.laid (by walk_at "ll") ?_)))))))
        intro p10 np10
        have ap_p10_a : p10 ≠ a := ne_none' np10 (by walk_at "hp")
        with_reducible refine Rd.cons (Rd.var (by walk_at "vr") (Rd.cons (Rd.var (by walk_at "vr") (Rd.nil (Rd.laid (by walk_at "ll") ?_)))))
        intro p9 np9
        have ap_p9_a : p9 ≠ a := ne_none' np9 (by walk_at "hp")
        have mm := mul_le3 (a := 1 + d1) (n := (1 + d5)) (by omega) (by omega) (by omega)
        refine k _ _ _ _ ⟨.form (1 + d1) 0, ru, em, fl, "refuse"⟩ _ _ _ _ (by walk_at "frm") (by walk_at "hp") (by walk_at "pool") (by walk_at "hp") (by walk_at "hp") ?_ ?_ ?_ ?_ ?_ ?_ ?_ ?_ ?_ ?_
        · exact rfl
        · exact ⟨_, rfl, (by walk_at "hp")⟩
        · exact ifl.keep (Frm.tups (by walk_at "frm") rb sb)
        · exact (wfr ⟨by omega, by omega, by omega, by omega⟩ hru hem wfl (show ("refuse" : Str) ∈ wWhen by decide +kernel) (fun _ _ _ => hnm))
        · omega
        · omega
        · omega
        · omega
        · exact ⟨mod_ok (Int.zero_emod _), fun z => by have z1 := hof z.1; have z2 : 2 * (1 + d5) < (1 + d1) * (1 + d5) + 0 := z.2; omega⟩
        · exact fun m h => by have := (mul_le3 (a := 1 + d1) (n := m) (by omega) (by omega) h).1; show 1 ≤ (1 + d1) * m + 0; omega
    · try simp only [decide_eq_true_eq, Bool.not_eq_true', decide_eq_false_iff_not, Bool.not_eq_true, Bool.not_eq_eq_eq_not, Bool.not_true, Bool.not_false, Int.not_lt, Int.not_le, Decidable.not_not] at h0
      with_reducible refine Rd.next (Rd.seq (Rd.asg (Rd.op (Rd.c (Rd.op (Rd.tup (Rd.cons (Rd.call (Rd.cons (Rd.var (by walk_at "vr") (Rd.cons ?_)))))))))))
      with_reducible refine Rd.c (Rd.nil ?_)
      refine ⟨_, _, _, rfl, (by walk_at "hp"), (by walk_at "pool"), (by walk_at "sc"), (by walk_at "sc"), fun d12 o12 d12a d12b s12 => ?_⟩
      with_reducible refine Rd.cons (Rd.call (Rd.cons (Rd.var (by walk_at "vr") (Rd.cons (Rd.c (Rd.nil ?_))))))
      refine ⟨_, _, _, rfl, (by walk_at "hp"), (by walk_at "pool"), (by walk_at "sc"), (by walk_at "sc"), fun dK oK dKa dKb sK => ?_⟩
      with_reducible refine Rd.nil (Rd.laid (by walk_at "ll") ?_)
      intro p12 np12
      have ap_p12_a : p12 ≠ a := ne_none' np12 (by walk_at "hp")
      with_reducible refine Rd.call (Rd.cons (Rd.var (by walk_at "vr") (Rd.cons (Rd.c (Rd.nil ?_)))))
      refine ⟨_, _, _, rfl, (by walk_at "hp"), (by walk_at "pool"), (by walk_at "sc"), (by walk_at "sc"), fun dR oR dRa dRb sR => ?_⟩
      refine Rd.pickT (fun v => ∃ i : Int, v = .int i ∧ 0 ≤ i ∧ i ≤ 99) (by walk_at "hpt") (by intro v hv; simp only [List.mem_cons, List.not_mem_nil, or_false] at hv; rcases hv with rfl | rfl <;> exact ⟨_, rfl, (by omega), (by omega)⟩) (by omega) (by show (_ : Int) < ((2 : Nat) : Int); omega) (fun v_w hv_w => ?_)
      obtain ⟨iw, rfl, iw0, iw1⟩ := hv_w
      with_reducible refine Rd.i0 (Rd.name ?_)
      try dsimp only [Int.reduceToNat, List.set]
      with_reducible refine Rd.seq (Rd.asg (Rd.call (Rd.cons (Rd.var (by walk_at "vr") (Rd.nil ?_)))))
      refine ⟨_, rfl, (by walk_at "sc"), (by walk_at "sc"), ?_⟩
      have pM := pow_le3 (i := (1 + iw).toNat) (by omega)
      have pM1 := pow_pos3 (1 + iw).toNat
      with_reducible refine Rd.name ?_
      try dsimp only [Int.reduceToNat, List.set]
      with_reducible refine Rd.seq (Rd.asg (Rd.call (Rd.cons (Rd.op (Rd.cB (Rd.cons (Rd.call (Rd.cons (Rd.var (by walk_at "vr") (Rd.cons (Rd.c ?_)))))))))))
      with_reducible refine Rd.nil ?_
      refine ⟨_, _, _, rfl, (by walk_at "hp"), (by walk_at "pool"), (by walk_at "sc"), (by walk_at "sc"), fun dK oK dKa dKb sK => ?_⟩
      with_reducible refine Rd.nil ((.inl ⟨_, rfl, (Rd.op (Rd.var (by walk_at "vr") (Rd.cB (Rd.cons (Rd.op (Rd.var (by walk_at "vr") (Rd.c (Rd.i0 (Rd.nil ((.inr ⟨_, rfl, ?_⟩)))))))))))⟩))
      with_reducible refine Rd.i0 (Rd.iC (by walk_at "sc") (Rd.nil ?_))
      obtain ⟨kk, ekk, kk0, kk1, kk2⟩ : ∃ kk : Int, kk = dK % (1 + iw + if decide (1 + iw < 100) = true then 1 else 0) ∧ 0 ≤ kk ∧ kk ≤ 99 ∧ kk ≤ 1 + iw := ⟨_, rfl, wide_ok iw0 iw1⟩
      rw [← ekk]
      refine ⟨_, rfl, (by walk_at "sc"), (by walk_at "sc"), ?_⟩
      have pN := pow_le99 (i := kk.toNat) (by omega)
      have pN1 := pow_pos3 kk.toNat
      have pNM := pow_mono3 (i := kk.toNat) (j := (1 + iw).toNat) (by omega)
      with_reducible refine Rd.name ?_
      try dsimp only [Int.reduceToNat, List.set]
      with_reducible refine Rd.seq (Rd.asg (Rd.op (Rd.tup (Rd.cons (Rd.c (Rd.cons (Rd.c (Rd.cons (Rd.c (Rd.nil (Rd.laid (by walk_at "ll") ?_)))))))))))
      intro p13 np13
      have ap_p13_a : p13 ≠ a := ne_none' np13 (by walk_at "hp")
      with_reducible refine Rd.call (Rd.cons (Rd.var (by walk_at "vr") (Rd.cons (Rd.op (Rd.c (Rd.cB (Rd.cons (Rd.op (Rd.var (by walk_at "vr") (Rd.op (Rd.c ?_)))))))))))
      with_reducible refine Rd.var (by walk_at "vr") (Rd.iC (by walk_at "scm") (Rd.i0 (Rd.nil ((.inr ⟨_, rfl, (Rd.i0 (Rd.nil ?_))⟩)))))
      refine ⟨_, _, _, rfl, (by walk_at "hp"), (by walk_at "pool"), (by walk_at "sc"), (by walk_at "sc"), fun dR oR dRa dRb sR => ?_⟩
      have ixo := idx3 dRb
      refine Rd.pickTd (fun v => ∃ s : Str, v = .str s ∧ s ∈ wSlot ∧ (s = "off" → (2 ^ (1 + iw).toNat : Int) ≤ 2 * 2 ^ kk.toNat)) (by walk_at "hpt") dRa (by exact ixo.1) ?_ (fun v_r hv_r => ?_)
      · intro j v hj e
        match j, hj with
        | 0, hj => cases hj; exact ⟨_, rfl, by decide +kernel, fun z => absurd z (by decide +kernel)⟩
        | 1, hj => cases hj; exact ⟨_, rfl, by decide +kernel, fun z => absurd z (by decide +kernel)⟩
        | 2, hj => cases hj; exact ⟨_, rfl, by decide +kernel, fun _ => of_decide_eq_true (ixo.2 e)⟩
      obtain ⟨ru, rfl, hru, hof⟩ := hv_r
      with_reducible refine Rd.name ?_
      try dsimp only [Int.reduceToNat, List.set]
      with_reducible refine Rd.ret (Rd.tup (Rd.cons (Rd.tup (Rd.cons (Rd.var (by walk_at "vr") (Rd.cons (Rd.var (by walk_at "vr") (Rd.cons (Rd.var (by walk_at "vr") (Rd.cons (Rd.var (by walk_at "vr") ?_)))))))))))
      with_reducible refine Rd.nil (Rd.laid (by walk_at "ll") ?_)
      intro p15 np15
      have ap_p15_a : p15 ≠ a := ne_none' np15 (by walk_at "hp")
      with_reducible refine Rd.cons (Rd.var (by walk_at "vr") (Rd.cons (Rd.var (by walk_at "vr") (Rd.nil (Rd.laid (by walk_at "ll") ?_)))))
      intro p14 np14
      have ap_p14_a : p14 ≠ a := ne_none' np14 (by walk_at "hp")
      refine k _ _ _ _ ⟨.width (1 + iw), ru, em, fl, "refuse"⟩ _ _ _ _ (by walk_at "frm") (by walk_at "hp") (by walk_at "pool") (by walk_at "hp") (by walk_at "hp") ?_ ?_ ?_ ?_ ?_ ?_ ?_ ?_ ?_ ?_
      · exact (Int.one_mul _).symm
      · exact rfl
      · exact ifl.keep (Frm.tups (by walk_at "frm") rb sb)
      · exact (wfr ⟨by omega, by omega⟩ hru hem wfl (show ("refuse" : Str) ∈ wWhen by decide +kernel) (fun _ _ z => by cases z))
      · omega
      · omega
      · omega
      · omega
      · exact ⟨(by show (1 * 2 ^ (1 + iw).toNat : Int) % 2 ^ kk.toNat = 0; rw [Int.one_mul]; exact pow_dvd3 (by omega)), fun z => by have z1 := hof z.1; have z2 : (2 : Int) * 2 ^ kk.toNat < 1 * 2 ^ (1 + iw).toNat := z.2; omega⟩
      · exact fun m h => by show (1 : Int) ≤ 1 * 2 ^ (1 + iw).toNat; omega
/-! _law_slot_is -/
theorem sc_l_slot_is : FnScope ["_law_ring_log", "_law_k", "_law_n", "_law_total", "_law_wanted", "_law_number"] ["_law_ring_log", "_law_k", "_law_n", "_law_total"] (defScope s_l_slot_is) := ⟨rfl, rfl, rfl, by decide +kernel, rfl, by decide +kernel, by decide +kernel⟩
theorem st_l_slot_is {v0 v1 v2 v3 : V} : L2.start ["_law_ring_log", "_law_k", "_law_n", "_law_total", "_law_wanted", "_law_number"] [v0, v1, v2, v3] = [some v0, some v1, some v2, some v3, none, none] := rfl
abbrev sp_l_slot_is (K : PySem.W.Frag) (A : Adr) : Sp := fun vs H Q _ => ∃ (lg dl : Addr) (M n c j T9 : Int), vs = [.ref lg, .int j, .int n, .int T9] ∧ H lg = some (.ins A.c_Log dl (fL M n T9)) ∧ 1 ≤ n ∧ n ≤ 1000000000000000000000000000000 ∧ 0 ≤ j ∧ j < n ∧ 0 ≤ T9 ∧ ∀ H', Same H H' → Q (.bl true) H'
theorem ok_l_slot_is (T : Txt w K mg A) : FnOk P w K mg base CX0 5 A.f_l_slot_is A.d_l_slot_is ["_law_ring_log", "_law_k", "_law_n", "_law_total"] (sp_l_slot_is K A) := by
  refine T.F_l_slot_is.ok sc_l_slot_is (fun vs H Q E h => ?_) (fun cdv Ar outer s H vs Q E hr h => ?_)
  · obtain ⟨lg, dl, M, n, c, j, T9, rfl, hl, n1, n2, j0, j1, t0, k⟩ := h
    rfl
  · obtain ⟨lg, dl, M, n, c, j, T9, rfl, hl, n1, n2, j0, j1, t0, k⟩ := h
    have hu := hu_of hr
    have t_q_PART_NAMES := T.q_PART_NAMES
    have t_q_PART_WORDS_slot := T.q_PART_WORDS_slot
    have t_d_PART_WORDS_slot := T.d_PART_WORDS_slot
    have t_q_PART_WORDS_empty := T.q_PART_WORDS_empty
    have t_d_PART_WORDS_empty := T.d_PART_WORDS_empty
    have t_q_PART_WORDS_when := T.q_PART_WORDS_when
    have t_d_PART_WORDS_when := T.d_PART_WORDS_when
    have t_q_MEASURES := T.q_MEASURES
    have t_q_SIGNS := T.q_SIGNS
    have t_q_PLAIN_FULLS := T.q_PLAIN_FULLS
    have t_i_Form := T.i_Form
    have t_kt_Form_Form := T.kt_Form_Form
    have t_kt_int_Form := T.kt_int_Form
    have t_nf_Form_Form := T.nf_Form_Form
    have t_nf_int_Form := T.nf_int_Form
    have t_xm_NoSize_NoSize := T.xm_NoSize_NoSize
    have t_xm_NoRing_NoSize := T.xm_NoRing_NoSize
    have t_xm_NoRing_NoRing := T.xm_NoRing_NoRing
    have t_xm_NotDecided_NoSize := T.xm_NotDecided_NoSize
    have t_xm_NotDecided_NoRing := T.xm_NotDecided_NoRing
    have t_xm_NotDecided_NotDecided := T.xm_NotDecided_NotDecided
    have t_xm_NoLag_NoSize := T.xm_NoLag_NoSize
    have t_xm_NoLag_NoRing := T.xm_NoLag_NoRing
    have t_xm_NoLag_NotDecided := T.xm_NoLag_NotDecided
    have t_xm_NoLag_NoLag := T.xm_NoLag_NoLag
    have t_xm_Outside_Outside := T.xm_Outside_Outside
    have t_k_Form := T.k_Form
    have t_k_Scheme := T.k_Scheme
    have t_k_Log := T.k_Log
    have r0 := fun z : Int => Int.emod_nonneg z (show n ≠ 0 by omega)
    have r1 := fun z : Int => Int.emod_lt_of_pos z (show 0 < n by omega)
    refine ⟨_, (pss_cons (ps_set (i := 4) sc_l_slot_is.nd rfl (Or.inl rfl) pe_int)
      (pss_cons (ps_if (PW.pt (pw_and (pt_cmpR op_le (pv 2) pe_int (nomark _)) (pw_and1 (pt_cmpR op_lt (pv 3) pe_int (nomark _))))) (pss_one (ps_for PassesOwn.never rfl (pi_range2 (by rfl) T.n_range (pa_cons pe_int (pa_cons (pe_op op_add (pv 3) pe_int) pa_nil))) (pg_name (i := 5) sc_l_slot_is.nd rfl (Or.inl rfl)) (pss_one (ps_if (pt_cmpR op_eq (pe_op op_mod (pe_callTy call_int1 (by rfl) T.n_int (by decide +kernel) (pa_cons (pe_op op_sub (pv 5) pe_int) pa_nil)) (pv 2)) (pv 1) (nomark _)) (pss_one (ps_set (i := 4) sc_l_slot_is.nd rfl (Or.inl rfl) (pv 5))) pss_nil)))) (pss_cons (ps_set (i := 4) sc_l_slot_is.nd rfl (Or.inl rfl) (pe_op op_sub (pv 3) (pe_op op_mod (pe_callTy call_int1 (by rfl) T.n_int (by decide +kernel) (pa_cons (pe_op op_sub (pe_op op_sub (pv 3) pe_int) (pv 1)) pa_nil)) (pv 2)))) (pss_one (ps_if (pt_cmpR op_lt (pv 4) pe_int (nomark _)) (pss_one (ps_set (i := 4) sc_l_slot_is.nd rfl (Or.inl rfl) pe_int)) pss_nil))))
      (pss_one (ps_ret (pe_and (pe_cmpR op_eq (Own.pe_item (ok_Logu__getitemu_ T) (hr.mono (by decide)) T.O_Logu__getitemu__1 T.fi_Logu__getitemu_ T.b_Logu__getitemu_ Sta.passF (pv 0) (pv 1)) (pv 4) (nomark _)) (pe_one (pe_not (pe_callB (Rd.isi (K := K) rfl) (by rfl) T.n_isinstance (by decide +kernel) (pa_cons (Own.pe_item (ok_Logu__getitemu_ T) (hr.mono (by decide)) T.O_Logu__getitemu__1 T.fi_Logu__getitemu_ T.b_Logu__getitemu_ Sta.passF (pv 0) (pv 1)) (pa_cons (pe_bltn (v := .ty "bool") (u := .type "bool") (by rfl) T.n_bool (by decide +kernel) rfl) pa_nil)))))))))), ?_⟩
    try dsimp only [L2.cxOf, L2.Cx.nox, L2.Cx.wish]
    try rw [st_l_slot_is]
    with_reducible refine Rd.seq (Rd.asg (Rd.c (Rd.name ?_)))
    try dsimp only [Int.reduceToNat, List.set]
    with_reducible refine Rd.seq (Rd.ifS (Rd.and (Rd.test (Rd.op (Rd.var (by walk_at "vr") (Rd.c (Rd.i0 (Rd.bl ?_))))))))
    refine Rd.ite (fun h0 => ?_) (fun h0 => ?_)
    · try simp only [decide_eq_true_eq, Bool.not_eq_true', decide_eq_false_iff_not, Bool.not_eq_true, Bool.not_eq_eq_eq_not, Bool.not_true, Bool.not_false] at h0
      with_reducible refine Rd.test (Rd.op (Rd.var (by walk_at "vr") (Rd.c (Rd.i0 (Rd.bl ?_)))))
      refine Rd.ite (fun h1 => ?_) (fun h1 => ?_)
      · try simp only [decide_eq_true_eq, Bool.not_eq_true', decide_eq_false_iff_not, Bool.not_eq_true, Bool.not_eq_eq_eq_not, Bool.not_true, Bool.not_false] at h1
        with_reducible refine Rd.fr (Rd.rng2 (Rd.cons (Rd.c (Rd.cons (Rd.op (Rd.var (by walk_at "vr") (Rd.c (Rd.i0 (Rd.nil (⟨_, _, rfl, ⟨(by walk_at "sc"), (by walk_at "sc"), (by walk_at "sc"), (by walk_at "sc")⟩, ?_⟩))))))))))
        refine for_range (lo := 1) (fun (i : Nat) (σ : L2.St) (H' : Hp) => ∃ v : Option V, σ = [some (.ref lg), some (.int j), some (.int n), some (.int T9), some (.int (cellV n j (i : Int))), v] ∧ H' = H) ⟨_, by rw [cell_zero j0], rfl⟩ (fun i σ H0 hi ⟨vn, es, eh⟩ => ?_) (fun σ H0 ⟨vn, es, eh⟩ => ?_)
        · subst es eh
          with_reducible refine Rd.name (Rd.ifS (Rd.test (Rd.op (Rd.op (Rd.cB (Rd.cons (Rd.op (Rd.var (by walk_at "vr") (Rd.c (Rd.i0 (Rd.nil ?_)))))))))))
          with_reducible refine (.inl ⟨_, rfl, (Rd.var (by walk_at "vr") (Rd.iC (by walk_at "sc") (Rd.var (by walk_at "vr") (Rd.eqS (by walk_at "vr") (Rd.bl ?_)))))⟩)
          refine Rd.ite (fun h2 => ?_) (fun h2 => ?_)
          · try simp only [decide_eq_true_eq, Bool.not_eq_true', decide_eq_false_iff_not, Bool.not_eq_true, Bool.not_eq_eq_eq_not, Bool.not_true, Bool.not_false] at h2
            with_reducible refine Rd.asg (Rd.var (by walk_at "vr") (Rd.name ?_))
            try dsimp only [Int.reduceToNat, List.set]
            rw [show (1 : Int) + (i : Int) - 1 = (i : Int) by omega] at h2
            first
            | exact ⟨_, (by rw [cell_hit n1 (V.int.inj h2)]; try rfl), rfl⟩
            | exact ⟨_, (by rw [cell_miss n1 j0 j1 (fun z => h2 (congrArg V.int z))]; try rfl), rfl⟩
          · try simp only [decide_eq_true_eq, Bool.not_eq_true', decide_eq_false_iff_not, Bool.not_eq_true, Bool.not_eq_eq_eq_not, Bool.not_true, Bool.not_false, Int.not_lt, Int.not_le, Decidable.not_not] at h2
            with_reducible refine Rd.next ?_
            rw [show (1 : Int) + (i : Int) - 1 = (i : Int) by omega] at h2
            first
            | exact ⟨_, (by rw [cell_hit n1 (V.int.inj h2)]; try rfl), rfl⟩
            | exact ⟨_, (by rw [cell_miss n1 j0 j1 (fun z => h2 (congrArg V.int z))]; try rfl), rfl⟩
        · subst es eh
          rw [show ((T9 + 1 - 1).toNat : Int) = T9 by omega] at *
          with_reducible refine Rd.ret (Rd.andV (Rd.op (Rd.op (Rd.var (by walk_at "vr") (Rd.var (by walk_at "vr") ?_)))))
          refine ⟨_, _, _, rfl, (by walk_at "hp"), ?_⟩
          refine ⟨_, _, _, _, _, _, rfl, (by walk_at "hp"), .inl ⟨(by omega), (by omega), ?_⟩⟩
          with_reducible refine Rd.var (by walk_at "vr") (Rd.eqS (by walk_at "vr") (Rd.bl ?_))
          refine' Rd.andB (d := _) (fun Q3u1 hq3u1 => ?pa3u1) ?pb3u1
          case pa3u1 =>
            with_reducible refine Rd.notV (Rd.cB (Rd.cons (Rd.op (Rd.var (by walk_at "vr") (Rd.var (by walk_at "vr") ?_)))))
            refine ⟨_, _, _, rfl, (by walk_at "hp"), ?_⟩
            refine ⟨_, _, _, _, _, _, rfl, (by walk_at "hp"), .inl ⟨(by omega), (by omega), ?_⟩⟩
            with_reducible refine Rd.cons (Rd.c (Rd.nil ?_))
            refine ⟨_, _, _, _, _, rfl, (by walk_at "clsv"), (by walk_at "tyx"), (by walk_at "kit"), ?_⟩
            with_reducible refine Rd.bl ?_
            exact hq3u1
          rotate_left 0
          refine Rd.truB (andT (congrArg V.int ?_)) (k _ (by walk_at "frm"))
          first
          | rfl
          | (rw [cell_far n1 j0 j1 t0, if_pos (by omega)])
          | (rw [cell_far n1 j0 j1 t0, if_neg (by omega)])
      · try simp only [decide_eq_true_eq, Bool.not_eq_true', decide_eq_false_iff_not, Bool.not_eq_true, Bool.not_eq_eq_eq_not, Bool.not_true, Bool.not_false, Int.not_lt, Int.not_le, Decidable.not_not] at h1
        with_reducible refine Rd.seq (Rd.asg (Rd.op (Rd.var (by walk_at "vr") (Rd.op (Rd.cB (Rd.cons (Rd.op (Rd.op (Rd.var (by walk_at "vr") (Rd.c (Rd.i0 ?_)))))))))))
        with_reducible refine Rd.var (by walk_at "vr") (Rd.i0 (Rd.nil ((.inl ⟨_, rfl, (Rd.var (by walk_at "vr") (Rd.iC (by walk_at "sc") (Rd.i0 (Rd.name ?_))))⟩))))
        try dsimp only [Int.reduceToNat, List.set]
        with_reducible refine Rd.ifS (Rd.test (Rd.op (Rd.var (by walk_at "vr") (Rd.c (Rd.i0 (Rd.bl ?_))))))
        refine Rd.ite (fun h4 => ?_) (fun h4 => ?_)
        · try simp only [decide_eq_true_eq, Bool.not_eq_true', decide_eq_false_iff_not, Bool.not_eq_true, Bool.not_eq_eq_eq_not, Bool.not_true, Bool.not_false] at h4
          with_reducible refine Rd.asg (Rd.c (Rd.name ?_))
          try dsimp only [Int.reduceToNat, List.set]
          with_reducible refine Rd.ret (Rd.andV (Rd.op (Rd.op (Rd.var (by walk_at "vr") (Rd.var (by walk_at "vr") ?_)))))
          refine ⟨_, _, _, rfl, (by walk_at "hp"), ?_⟩
          refine ⟨_, _, _, _, _, _, rfl, (by walk_at "hp"), .inl ⟨(by omega), (by omega), ?_⟩⟩
          with_reducible refine Rd.var (by walk_at "vr") (Rd.eqS (by walk_at "vr") (Rd.bl ?_))
          refine' Rd.andB (d := _) (fun Q3u2 hq3u2 => ?pa3u2) ?pb3u2
          case pa3u2 =>
            with_reducible refine Rd.notV (Rd.cB (Rd.cons (Rd.op (Rd.var (by walk_at "vr") (Rd.var (by walk_at "vr") ?_)))))
            refine ⟨_, _, _, rfl, (by walk_at "hp"), ?_⟩
            refine ⟨_, _, _, _, _, _, rfl, (by walk_at "hp"), .inl ⟨(by omega), (by omega), ?_⟩⟩
            with_reducible refine Rd.cons (Rd.c (Rd.nil ?_))
            refine ⟨_, _, _, _, _, rfl, (by walk_at "clsv"), (by walk_at "tyx"), (by walk_at "kit"), ?_⟩
            with_reducible refine Rd.bl ?_
            exact hq3u2
          rotate_left 0
          refine Rd.truB (andT (congrArg V.int ?_)) (k _ (by walk_at "frm"))
          first
          | rfl
          | (rw [cell_far n1 j0 j1 t0, if_pos (by omega)])
          | (rw [cell_far n1 j0 j1 t0, if_neg (by omega)])
        · try simp only [decide_eq_true_eq, Bool.not_eq_true', decide_eq_false_iff_not, Bool.not_eq_true, Bool.not_eq_eq_eq_not, Bool.not_true, Bool.not_false, Int.not_lt, Int.not_le, Decidable.not_not] at h4
          with_reducible refine Rd.next (Rd.ret (Rd.andV (Rd.op (Rd.op (Rd.var (by walk_at "vr") (Rd.var (by walk_at "vr") ?_))))))
          refine ⟨_, _, _, rfl, (by walk_at "hp"), ?_⟩
          refine ⟨_, _, _, _, _, _, rfl, (by walk_at "hp"), .inl ⟨(by omega), (by omega), ?_⟩⟩
          with_reducible refine Rd.var (by walk_at "vr") (Rd.eqS (by walk_at "vr") (Rd.bl ?_))
          refine' Rd.andB (d := _) (fun Q3u3 hq3u3 => ?pa3u3) ?pb3u3
          case pa3u3 =>
            with_reducible refine Rd.notV (Rd.cB (Rd.cons (Rd.op (Rd.var (by walk_at "vr") (Rd.var (by walk_at "vr") ?_)))))
            refine ⟨_, _, _, rfl, (by walk_at "hp"), ?_⟩
            refine ⟨_, _, _, _, _, _, rfl, (by walk_at "hp"), .inl ⟨(by omega), (by omega), ?_⟩⟩
            with_reducible refine Rd.cons (Rd.c (Rd.nil ?_))
            refine ⟨_, _, _, _, _, rfl, (by walk_at "clsv"), (by walk_at "tyx"), (by walk_at "kit"), ?_⟩
            with_reducible refine Rd.bl ?_
            exact hq3u3
          rotate_left 0
          refine Rd.truB (andT (congrArg V.int ?_)) (k _ (by walk_at "frm"))
          first
          | rfl
          | (rw [cell_far n1 j0 j1 t0, if_pos (by omega)])
          | (rw [cell_far n1 j0 j1 t0, if_neg (by omega)])
    · try simp only [decide_eq_true_eq, Bool.not_eq_true', decide_eq_false_iff_not, Bool.not_eq_true, Bool.not_eq_eq_eq_not, Bool.not_true, Bool.not_false, Int.not_lt, Int.not_le, Decidable.not_not] at h0
      with_reducible refine Rd.iteF rfl (Rd.seq (Rd.asg (Rd.op (Rd.var (by walk_at "vr") (Rd.op (Rd.cB (Rd.cons (Rd.op (Rd.op (Rd.var (by walk_at "vr") (Rd.c ?_)))))))))))
      with_reducible refine Rd.i0 (Rd.var (by walk_at "vr") (Rd.i0 (Rd.nil ((.inl ⟨_, rfl, (Rd.var (by walk_at "vr") (Rd.iC (by walk_at "sc") (Rd.i0 (Rd.name ?_))))⟩)))))
      try dsimp only [Int.reduceToNat, List.set]
      with_reducible refine Rd.ifS (Rd.test (Rd.op (Rd.var (by walk_at "vr") (Rd.c (Rd.i0 (Rd.bl ?_))))))
      refine Rd.ite (fun h4 => ?_) (fun h4 => ?_)
      · try simp only [decide_eq_true_eq, Bool.not_eq_true', decide_eq_false_iff_not, Bool.not_eq_true, Bool.not_eq_eq_eq_not, Bool.not_true, Bool.not_false] at h4
        with_reducible refine Rd.asg (Rd.c (Rd.name ?_))
        try dsimp only [Int.reduceToNat, List.set]
        with_reducible refine Rd.ret (Rd.andV (Rd.op (Rd.op (Rd.var (by walk_at "vr") (Rd.var (by walk_at "vr") ?_)))))
        refine ⟨_, _, _, rfl, (by walk_at "hp"), ?_⟩
        refine ⟨_, _, _, _, _, _, rfl, (by walk_at "hp"), .inl ⟨(by omega), (by omega), ?_⟩⟩
        with_reducible refine Rd.var (by walk_at "vr") (Rd.eqS (by walk_at "vr") (Rd.bl ?_))
        refine' Rd.andB (d := _) (fun Q3u4 hq3u4 => ?pa3u4) ?pb3u4
        case pa3u4 =>
          with_reducible refine Rd.notV (Rd.cB (Rd.cons (Rd.op (Rd.var (by walk_at "vr") (Rd.var (by walk_at "vr") ?_)))))
          refine ⟨_, _, _, rfl, (by walk_at "hp"), ?_⟩
          refine ⟨_, _, _, _, _, _, rfl, (by walk_at "hp"), .inl ⟨(by omega), (by omega), ?_⟩⟩
          with_reducible refine Rd.cons (Rd.c (Rd.nil ?_))
          refine ⟨_, _, _, _, _, rfl, (by walk_at "clsv"), (by walk_at "tyx"), (by walk_at "kit"), ?_⟩
          with_reducible refine Rd.bl ?_
          exact hq3u4
        rotate_left 0
        refine Rd.truB (andT (congrArg V.int ?_)) (k _ (by walk_at "frm"))
        first
        | rfl
        | (rw [cell_far n1 j0 j1 t0, if_pos (by omega)])
        | (rw [cell_far n1 j0 j1 t0, if_neg (by omega)])
      · try simp only [decide_eq_true_eq, Bool.not_eq_true', decide_eq_false_iff_not, Bool.not_eq_true, Bool.not_eq_eq_eq_not, Bool.not_true, Bool.not_false, Int.not_lt, Int.not_le, Decidable.not_not] at h4
        with_reducible refine Rd.next (Rd.ret (Rd.andV (Rd.op (Rd.op (Rd.var (by walk_at "vr") (Rd.var (by walk_at "vr") ?_))))))
        refine ⟨_, _, _, rfl, (by walk_at "hp"), ?_⟩
        refine ⟨_, _, _, _, _, _, rfl, (by walk_at "hp"), .inl ⟨(by omega), (by omega), ?_⟩⟩
        with_reducible refine Rd.var (by walk_at "vr") (Rd.eqS (by walk_at "vr") (Rd.bl ?_))
        refine' Rd.andB (d := _) (fun Q3u5 hq3u5 => ?pa3u5) ?pb3u5
        case pa3u5 =>
          with_reducible refine Rd.notV (Rd.cB (Rd.cons (Rd.op (Rd.var (by walk_at "vr") (Rd.var (by walk_at "vr") ?_)))))
          refine ⟨_, _, _, rfl, (by walk_at "hp"), ?_⟩
          refine ⟨_, _, _, _, _, _, rfl, (by walk_at "hp"), .inl ⟨(by omega), (by omega), ?_⟩⟩
          with_reducible refine Rd.cons (Rd.c (Rd.nil ?_))
          refine ⟨_, _, _, _, _, rfl, (by walk_at "clsv"), (by walk_at "tyx"), (by walk_at "kit"), ?_⟩
          with_reducible refine Rd.bl ?_
          exact hq3u5
        rotate_left 0
        refine Rd.truB (andT (congrArg V.int ?_)) (k _ (by walk_at "frm"))
        first
        | rfl
        | (rw [cell_far n1 j0 j1 t0, if_pos (by omega)])
        | (rw [cell_far n1 j0 j1 t0, if_neg (by omega)])
/-! _law_refuses -/
theorem sc_l_refuses : FnScope ["_law_ring_log", "_law_n", "_law_k", "_law_told"] ["_law_ring_log", "_law_n"] (defScope s_l_refuses) := ⟨rfl, rfl, rfl, by decide +kernel, rfl, by decide +kernel, by decide +kernel⟩
theorem st_l_refuses {v0 v1 : V} : L2.start ["_law_ring_log", "_law_n", "_law_k", "_law_told"] [v0, v1] = [some v0, some v1, none, none] := rfl
abbrev sp_l_refuses (K : PySem.W.Frag) (A : Adr) : Sp := fun vs H Q _ => ∃ (lg dl : Addr) (M n c : Int), vs = [.ref lg, .int n] ∧ H lg = some (.ins A.c_Log dl (fL M n c)) ∧ 1 ≤ n ∧ ∀ H', Same H H' → Q (.bl true) H'
theorem ok_l_refuses (T : Txt w K mg A) : FnOk P w K mg base CX0 5 A.f_l_refuses A.d_l_refuses ["_law_ring_log", "_law_n"] (sp_l_refuses K A) := by
  refine T.F_l_refuses.ok sc_l_refuses (fun vs H Q E h => ?_) (fun cdv Ar outer s H vs Q E hr h => ?_)
  · obtain ⟨lg, dl, M, n, c, rfl, hl, n1, k⟩ := h
    rfl
  · obtain ⟨lg, dl, M, n, c, rfl, hl, n1, k⟩ := h
    have hu := hu_of hr
    have t_q_PART_NAMES := T.q_PART_NAMES
    have t_q_PART_WORDS_slot := T.q_PART_WORDS_slot
    have t_d_PART_WORDS_slot := T.d_PART_WORDS_slot
    have t_q_PART_WORDS_empty := T.q_PART_WORDS_empty
    have t_d_PART_WORDS_empty := T.d_PART_WORDS_empty
    have t_q_PART_WORDS_when := T.q_PART_WORDS_when
    have t_d_PART_WORDS_when := T.d_PART_WORDS_when
    have t_q_MEASURES := T.q_MEASURES
    have t_q_SIGNS := T.q_SIGNS
    have t_q_PLAIN_FULLS := T.q_PLAIN_FULLS
    have t_i_Form := T.i_Form
    have t_kt_Form_Form := T.kt_Form_Form
    have t_kt_int_Form := T.kt_int_Form
    have t_nf_Form_Form := T.nf_Form_Form
    have t_nf_int_Form := T.nf_int_Form
    have t_xm_NoSize_NoSize := T.xm_NoSize_NoSize
    have t_xm_NoRing_NoSize := T.xm_NoRing_NoSize
    have t_xm_NoRing_NoRing := T.xm_NoRing_NoRing
    have t_xm_NotDecided_NoSize := T.xm_NotDecided_NoSize
    have t_xm_NotDecided_NoRing := T.xm_NotDecided_NoRing
    have t_xm_NotDecided_NotDecided := T.xm_NotDecided_NotDecided
    have t_xm_NoLag_NoSize := T.xm_NoLag_NoSize
    have t_xm_NoLag_NoRing := T.xm_NoLag_NoRing
    have t_xm_NoLag_NotDecided := T.xm_NoLag_NotDecided
    have t_xm_NoLag_NoLag := T.xm_NoLag_NoLag
    have t_xm_Outside_Outside := T.xm_Outside_Outside
    have t_k_Form := T.k_Form
    have t_k_Scheme := T.k_Scheme
    have t_k_Log := T.k_Log
    refine ⟨_, (pss_cons (ps_for PassesOwn.never rfl (pi_tup (pe_tup (pa_cons (pe_un un_neg pe_int) (pa_cons (pv 1) (pa_cons (pe_op op_add (pv 1) pe_int) pa_nil))))) (pg_name (i := 2) sc_l_refuses.nd rfl (Or.inl rfl)) (pss_one (ps_try_only rfl rfl ⟨by rfl, by decide, .inl T.m_Outside⟩ takes0 (fun W pn xe tk _ => (pss_cons (ps_set (i := 3) sc_l_refuses.nd rfl (Or.inl rfl) (TrO.pe_itemS (ok_Logu__getitemu_ T) (hr.mono (by decide)) T.O_Logu__getitemu__1 T.fi_Logu__getitemu_ T.b_Logu__getitemu_ (fun σ => passAt tk σ) (pv 0) (pv 2))) (pss_one ps_never))) (fun ea oe cls d pn hz hf => (pss_one ps_continue)))))
      (pss_one (ps_ret pe_bl))), ?_⟩
    try dsimp only [L2.cxOf, L2.Cx.nox, L2.Cx.wish]
    try rw [st_l_refuses]
    with_reducible refine Rd.seq (Rd.fr (Rd.it (Rd.tup (Rd.cons (Rd.un (Rd.c (Rd.iU (Rd.cons (Rd.var (by walk_at "vr") (Rd.cons (Rd.op ?_)))))))))))
    with_reducible refine Rd.var (by walk_at "vr") (Rd.c (Rd.i0 (Rd.nil (Rd.laid (by walk_at "ll") ?_))))
    intro p0 np0
    with_reducible refine ⟨_, rfl, ?_⟩
    refine Rd.unrollB (by walk_at "hpt") ?_
    refine Rd.unrBCons ?_
    with_reducible refine Rd.name ?_
    dsimp only [List.set]
    try dsimp only
    with_reducible refine Rd.seq (Rd.asg (Rd.itS (Rd.var (by walk_at "vr") (Rd.var (by walk_at "vr") ?_))))
    refine ⟨_, _, _, rfl, (by walk_at "hp"), ?_⟩
    refine ⟨_, _, _, _, _, _, rfl, (by walk_at "hp"), .inr (.inl ⟨(by omega), fun H1 S1 => ?_⟩)⟩
    refine ⟨true, (by walk_at "exm"), fun _ ea1 nea1 => ?_, fun q => nomatch q⟩
    with_reducible refine Rd.cont ?_
    refine ⟨by walk_at "hpt", ?_⟩
    refine Rd.unrBCons ?_
    with_reducible refine Rd.name ?_
    dsimp only [List.set]
    try dsimp only
    with_reducible refine Rd.seq (Rd.asg (Rd.itS (Rd.var (by walk_at "vr") (Rd.var (by walk_at "vr") ?_))))
    refine ⟨_, _, _, rfl, (by walk_at "hp"), ?_⟩
    refine ⟨_, _, _, _, _, _, rfl, (by walk_at "hp"), .inr (.inr ⟨(by omega), (by omega), fun H2 S2 => ?_⟩)⟩
    refine ⟨true, (by walk_at "exm"), fun _ ea1 nea1 => ?_, fun q => nomatch q⟩
    with_reducible refine Rd.cont ?_
    refine ⟨by walk_at "hpt", ?_⟩
    refine Rd.unrBCons ?_
    with_reducible refine Rd.name ?_
    dsimp only [List.set]
    try dsimp only
    with_reducible refine Rd.seq (Rd.asg (Rd.itS (Rd.var (by walk_at "vr") (Rd.var (by walk_at "vr") ?_))))
    refine ⟨_, _, _, rfl, (by walk_at "hp"), ?_⟩
    refine ⟨_, _, _, _, _, _, rfl, (by walk_at "hp"), .inr (.inr ⟨(by omega), (by omega), fun H3 S3 => ?_⟩)⟩
    refine ⟨true, (by walk_at "exm"), fun _ ea1 nea1 => ?_, fun q => nomatch q⟩
    with_reducible refine Rd.cont ?_
    refine ⟨by walk_at "hpt", ?_⟩
    refine Rd.unrBNil ?_
    with_reducible refine Rd.ret (Rd.c ?_)
    exact k _ (by walk_at "frm")
/-! _law_no_number -/
theorem sc_l_no_number : FnScope ["_law_ring_log", "_law_number"] ["_law_ring_log", "_law_number"] (defScope s_l_no_number) := ⟨rfl, rfl, rfl, by decide +kernel, rfl, by decide +kernel, by decide +kernel⟩
theorem st_l_no_number {v0 v1 : V} : L2.start ["_law_ring_log", "_law_number"] [v0, v1] = [some v0, some v1] := rfl
abbrev sp_l_no_number (K : PySem.W.Frag) (A : Adr) : Sp := fun vs H Q _ => ∃ (lg dl : Addr) (M n c : Int) (y : V), vs = [.ref lg, y] ∧ H lg = some (.ins A.c_Log dl (fL M n c)) ∧ BadM K H 10000000000000000000000000000000000000000 y ∧ ∀ H', Same H H' → Q (.bl true) H'
theorem ok_l_no_number (T : Txt w K mg A) : FnOk P w K mg base CX0 5 A.f_l_no_number A.d_l_no_number ["_law_ring_log", "_law_number"] (sp_l_no_number K A) := by
  refine T.F_l_no_number.ok sc_l_no_number (fun vs H Q E h => ?_) (fun cdv Ar outer s H vs Q E hr h => ?_)
  · obtain ⟨lg, dl, M, n, c, y, rfl, hl, hb, k⟩ := h
    rfl
  · obtain ⟨lg, dl, M, n, c, y, rfl, hl, hb, k⟩ := h
    have hu := hu_of hr
    have t_q_PART_NAMES := T.q_PART_NAMES
    have t_q_PART_WORDS_slot := T.q_PART_WORDS_slot
    have t_d_PART_WORDS_slot := T.d_PART_WORDS_slot
    have t_q_PART_WORDS_empty := T.q_PART_WORDS_empty
    have t_d_PART_WORDS_empty := T.d_PART_WORDS_empty
    have t_q_PART_WORDS_when := T.q_PART_WORDS_when
    have t_d_PART_WORDS_when := T.d_PART_WORDS_when
    have t_q_MEASURES := T.q_MEASURES
    have t_q_SIGNS := T.q_SIGNS
    have t_q_PLAIN_FULLS := T.q_PLAIN_FULLS
    have t_i_Form := T.i_Form
    have t_kt_Form_Form := T.kt_Form_Form
    have t_kt_int_Form := T.kt_int_Form
    have t_nf_Form_Form := T.nf_Form_Form
    have t_nf_int_Form := T.nf_int_Form
    have t_xm_NoSize_NoSize := T.xm_NoSize_NoSize
    have t_xm_NoRing_NoSize := T.xm_NoRing_NoSize
    have t_xm_NoRing_NoRing := T.xm_NoRing_NoRing
    have t_xm_NotDecided_NoSize := T.xm_NotDecided_NoSize
    have t_xm_NotDecided_NoRing := T.xm_NotDecided_NoRing
    have t_xm_NotDecided_NotDecided := T.xm_NotDecided_NotDecided
    have t_xm_NoLag_NoSize := T.xm_NoLag_NoSize
    have t_xm_NoLag_NoRing := T.xm_NoLag_NoRing
    have t_xm_NoLag_NotDecided := T.xm_NoLag_NotDecided
    have t_xm_NoLag_NoLag := T.xm_NoLag_NoLag
    have t_xm_Outside_Outside := T.xm_Outside_Outside
    have t_k_Form := T.k_Form
    have t_k_Scheme := T.k_Scheme
    have t_k_Log := T.k_Log
    refine ⟨_, (pss_one (ps_try_only rfl rfl ⟨by rfl, by decide, .inl T.m_NoLag⟩ takes0 (fun W pn xe tk _ => (pss_cons (TrO.ps_augS (i := 0) (op := .Add) sc_l_no_number.nd rfl rfl (pv 1) (ok_Logu__iaddu_ T) (hr.mono (by decide)) T.O_Logu__iaddu__I.1 T.O_Logu__iaddu__I.2 T.b_Logu__iaddu_ (fun σ => passAt tk σ))
      (pss_one ps_never))) (fun ea oe cls d pn hz hf => (pss_one (ps_ret pe_bl))))), ?_⟩
    try dsimp only [L2.cxOf, L2.Cx.nox, L2.Cx.wish]
    try rw [st_l_no_number]
    try dsimp only
    with_reducible refine Rd.seq (Rd.augS (by walk_at "vr") (Rd.var (by walk_at "vr") ?_))
    refine ⟨_, _, _, rfl, (by walk_at "hp"), ?_⟩
    refine ⟨_, _, _, _, _, _, rfl, (by walk_at "hp"), .inr ⟨hb, fun H1 S1 => ?_⟩⟩
    refine ⟨true, (by walk_at "exm"), fun _ ea1 nea1 => ?_, fun q => nomatch q⟩
    with_reducible refine Rd.ret (Rd.c ?_)
    exact k _ (by walk_at "frm")
/-! law -/
theorem sc_law : FnScope ["_law_script", "_law_pool_here", "_law_row", "_law_n", "_law_modulus", "_law_book", "_law_total", "_law_k", "_law_kept", "_law_many", "_law_j"] ["_law_script"] (defScope s_law) := ⟨rfl, rfl, rfl, by decide +kernel, rfl, by decide +kernel, by decide +kernel⟩
theorem st_law {v0 : V} : L2.start ["_law_script", "_law_pool_here", "_law_row", "_law_n", "_law_modulus", "_law_book", "_law_total", "_law_k", "_law_kept", "_law_many", "_law_j"] [v0] = [some v0, none, none, none, none, none, none, none, none, none, none] := rfl
abbrev sp_law (K : PySem.W.Frag) : Sp := fun vs H Q _ => ∃ (a : Addr) (ns : List Int), vs = [.ref a] ∧ SqL K H a (ns.map V.int) ∧ ns.length ≤ 63 ∧ ∀ H', Q (.bl true) H'
theorem ok_law (T : Txt w K mg A) : FnOk P w K mg base CX0 9 A.f_law A.d_law ["_law_script"] (sp_law K) := by
  refine T.F_law.ok sc_law (fun vs H Q E h => ?_) (fun cdv Ar outer s H vs Q E hr h => ?_)
  · obtain ⟨a, ns, rfl, hS, hlen, k⟩ := h
    rfl
  · obtain ⟨a, ns, rfl, hS, hlen, k⟩ := h
    have hu := hu_of hr
    have t_q_PART_NAMES := T.q_PART_NAMES
    have t_q_PART_WORDS_slot := T.q_PART_WORDS_slot
    have t_d_PART_WORDS_slot := T.d_PART_WORDS_slot
    have t_q_PART_WORDS_empty := T.q_PART_WORDS_empty
    have t_d_PART_WORDS_empty := T.d_PART_WORDS_empty
    have t_q_PART_WORDS_when := T.q_PART_WORDS_when
    have t_d_PART_WORDS_when := T.d_PART_WORDS_when
    have t_q_MEASURES := T.q_MEASURES
    have t_q_SIGNS := T.q_SIGNS
    have t_q_PLAIN_FULLS := T.q_PLAIN_FULLS
    have t_i_Form := T.i_Form
    have t_kt_Form_Form := T.kt_Form_Form
    have t_kt_int_Form := T.kt_int_Form
    have t_nf_Form_Form := T.nf_Form_Form
    have t_nf_int_Form := T.nf_int_Form
    have t_xm_NoSize_NoSize := T.xm_NoSize_NoSize
    have t_xm_NoRing_NoSize := T.xm_NoRing_NoSize
    have t_xm_NoRing_NoRing := T.xm_NoRing_NoRing
    have t_xm_NotDecided_NoSize := T.xm_NotDecided_NoSize
    have t_xm_NotDecided_NoRing := T.xm_NotDecided_NoRing
    have t_xm_NotDecided_NotDecided := T.xm_NotDecided_NotDecided
    have t_xm_NoLag_NoSize := T.xm_NoLag_NoSize
    have t_xm_NoLag_NoRing := T.xm_NoLag_NoRing
    have t_xm_NoLag_NotDecided := T.xm_NoLag_NotDecided
    have t_xm_NoLag_NoLag := T.xm_NoLag_NoLag
    have t_xm_Outside_Outside := T.xm_Outside_Outside
    have t_k_Form := T.k_Form
    have t_k_Scheme := T.k_Scheme
    have t_k_Log := T.k_Log
    have e40 : (10 : Int) ^ Int.toNat 40 = 10000000000000000000000000000000000000000 := by decide +kernel
    have e30 : (10 : Int) ^ Int.toNat 30 = 1000000000000000000000000000000 := by decide +kernel
    refine ⟨_, (pss_cons (ps_set (i := 1) sc_law.nd rfl (Or.inl rfl) (pe_call (ok_l_pool T) (hr.mono (by decide)) (by rfl) T.m_l_pool T.F_l_pool.kp T.b_l_pool .nil pass0 (pa_cons (pv 0) pa_nil)))
      (pss_cons (ps_asg (pe_call (ok_l_setting T) (hr.mono (by decide)) (by rfl) T.m_l_setting T.F_l_setting.kp T.b_l_setting .nil pass0 (pa_cons (pv 1) pa_nil)) (pg_tup (by rfl) (pgs_cons (pg_name (i := 2) sc_law.nd rfl (Or.inl rfl)) (pgs_cons (pg_name (i := 3) sc_law.nd rfl (Or.inl rfl)) (pgs_cons (pg_name (i := 4) sc_law.nd rfl (Or.inl rfl)) pgs_nil)))))
      (pss_cons (ps_set (i := 5) sc_law.nd rfl (Or.inl rfl) (pe_make T.K_Log (ok_Logu__initu_ T) (hr.mono (by decide)) (by rfl) T.m_Log T.b_Logu__initu_ .nil pass0 (pa_cons (pe_call (ok_l_made T) (hr.mono (by decide)) (by rfl) T.m_l_made T.F_l_made.kp T.b_l_made .nil pass0 (pa_cons (pv 2) (pa_cons pe_str pa_nil))) (pa_cons (pv 3) pa_nil))))
      (pss_cons (ps_set (i := 6) sc_law.nd rfl (Or.inl rfl) pe_int)
      (pss_cons (ps_for PassesOwn.never rfl (pi_range1 (by rfl) T.n_range (pa_cons (pe_op op_add pe_int (pe_call (ok_l_draw T) (hr.mono (by decide)) (by rfl) T.m_l_draw T.F_l_draw.kp T.b_l_draw .nil pass0 (pa_cons (pv 1) (pa_cons pe_int pa_nil)))) pa_nil)) (pg_name (i := 7) sc_law.nd rfl (Or.inl rfl)) (pss_cons (ps_set (i := 8) sc_law.nd rfl (Or.inl rfl) (pv 5))
      (pss_cons (ps_set (i := 9) sc_law.nd rfl (Or.inl rfl) (pe_call (ok_l_draw T) (hr.mono (by decide)) (by rfl) T.m_l_draw T.F_l_draw.kp T.b_l_draw .nil pass0 (pa_cons (pv 1) (pa_cons pe_int pa_nil))))
      (pss_cons (ps_if (PW.pt (pw_or (pt_cmpR op_gt (pv 3) pe_int (nomark _)) (pw_or1 (pt_cmpR op_eq (pe_call (ok_l_draw T) (hr.mono (by decide)) (by rfl) T.m_l_draw T.F_l_draw.kp T.b_l_draw .nil pass0 (pa_cons (pv 1) (pa_cons pe_int pa_nil))) pe_int (nomark _))))) (pss_one (ps_set (i := 9) sc_law.nd rfl (Or.inl rfl) (pe_ix (Rd.ixTK rfl) (pe_tup (pa_cons (pe_op op_pow pe_int pe_int) (pa_cons (pe_call (ok_l_wide T) (hr.mono (by decide)) (by rfl) T.m_l_wide T.F_l_wide.kp T.b_l_wide .nil pass0 (pa_cons (pv 1) (pa_cons (pe_op op_pow pe_int pe_int) pa_nil))) pa_nil))) (pe_callTy call_int1 (by rfl) T.n_int (by decide +kernel) (pa_cons (pe_cmpR op_gt (pe_call (ok_l_draw T) (hr.mono (by decide)) (by rfl) T.m_l_draw T.F_l_draw.kp T.b_l_draw .nil pass0 (pa_cons (pv 1) (pa_cons pe_int pa_nil))) pe_int (nomark _)) pa_nil)) (fun _ _ => rfl)))) pss_nil)
      (pss_cons (ps_aug (i := 5) sc_law.nd rfl (Or.inl rfl) (pv 9) (Own.pip (Own.iopT (op := .Add) (ok_Logu__iaddu_ T) (hr.mono (by decide)) T.O_Logu__iaddu__I.1 T.O_Logu__iaddu__I.2 T.b_Logu__iaddu_ Sta.passF)))
      (pss_cons (ps_set (i := 6) sc_law.nd rfl (Or.inl rfl) (pe_op op_add (pv 6) (pv 9)))
      (pss_cons (ps_if (PW.pt (pw_or (pt_cmpR op_ne (pe_prop (pv 8) T.k_Log T.R_Log_put_count (ok_Log_put_count T) (hr.mono (by decide)) T.b_Log_put_count .nil pass0 rfl) (pv 6) (nomark _)) (pw_or (pt_cmpR op_ne (pe_prop (pv 5) T.k_Log T.R_Log_put_count (ok_Log_put_count T) (hr.mono (by decide)) T.b_Log_put_count .nil pass0 rfl) (pv 6) (nomark _)) (pw_or1 (pt_cmpR op_ne (pe_prop (pv 5) T.k_Log T.R_Log_held (ok_Log_held T) (hr.mono (by decide)) T.b_Log_held .nil pass0 rfl) (pe_ix (Rd.ixTK rfl) (pe_tup (pa_cons (pv 6) (pa_cons (pv 3) pa_nil))) (pe_callTy call_int1 (by rfl) T.n_int (by decide +kernel) (pa_cons (pe_cmpR op_gt (pv 6) (pv 3) (nomark _)) pa_nil)) (fun _ _ => rfl)) (nomark _)))))) (pss_one ps_never) pss_nil)
      (pss_cons (ps_if (PW.pt (pw_or (pt_not (pt_val (pe_call (ok_l_no_number T) (hr.mono (by decide)) (by rfl) T.m_l_no_number T.F_l_no_number.kp T.b_l_no_number .nil pass0 (pa_cons (pv 5) (pa_cons (pe_ix (Rd.ixTK rfl) (pe_tup (pa_cons (pe_un un_neg pe_int) (pa_cons (pe_op op_add (pe_op op_pow pe_int pe_int) pe_int) (pa_cons pe_bl pa_nil)))) (pe_call (ok_l_draw T) (hr.mono (by decide)) (by rfl) T.m_l_draw T.F_l_draw.kp T.b_l_draw .nil pass0 (pa_cons (pv 1) (pa_cons pe_int pa_nil))) (fun _ _ => rfl)) pa_nil))))) (pw_or1 (pt_cmpR op_ne (pe_prop (pv 5) T.k_Log T.R_Log_put_count (ok_Log_put_count T) (hr.mono (by decide)) T.b_Log_put_count .nil pass0 rfl) (pv 6) (nomark _))))) (pss_one ps_never) pss_nil)
      (pss_one (ps_for PassesOwn.never rfl (pi_range1 (by rfl) T.n_range (pa_cons pe_int pa_nil)) (pg_name (i := 10) sc_law.nd rfl (Or.inl rfl)) (pss_one (ps_if (pt_not (pt_val (pe_call (ok_l_slot_is T) (hr.mono (by decide)) (by rfl) T.m_l_slot_is T.F_l_slot_is.kp T.b_l_slot_is .nil pass0 (pa_cons (pv 5) (pa_cons (pe_ix (Rd.ixTK rfl) (pe_tup (pa_cons (pe_op op_mod (pe_callTy call_int1 (by rfl) T.n_int (by decide +kernel) (pa_cons (pe_call (ok_l_wide T) (hr.mono (by decide)) (by rfl) T.m_l_wide T.F_l_wide.kp T.b_l_wide .nil pass0 (pa_cons (pv 1) (pa_cons (pe_op op_pow pe_int pe_int) pa_nil))) pa_nil)) (pv 3)) (pa_cons (pe_op op_mod (pe_callTy call_int1 (by rfl) T.n_int (by decide +kernel) (pa_cons (pv 10) pa_nil)) (pv 3)) pa_nil))) (pe_callTy call_int1 (by rfl) T.n_int (by decide +kernel) (pa_cons (pe_cmpR op_lt (pv 3) pe_int (nomark _)) pa_nil)) (fun _ _ => rfl)) (pa_cons (pv 3) (pa_cons (pv 6) pa_nil))))))) (pss_one ps_never) pss_nil))))))))))))
      (pss_one (ps_ret (pe_call (ok_l_refuses T) (hr.mono (by decide)) (by rfl) T.m_l_refuses T.F_l_refuses.kp T.b_l_refuses .nil pass0 (pa_cons (pv 5) (pa_cons (pv 3) pa_nil)))))))))), ?_⟩
    try dsimp only [L2.cxOf, L2.Cx.nox, L2.Cx.wish]
    try rw [st_law]
    with_reducible refine Rd.seq (Rd.asg (Rd.call (Rd.cons (Rd.var (by walk_at "vr") (Rd.nil ?_)))))
    refine ⟨_, _, rfl, (by walk_at "hpl"), (by walk_at "sc"), fun po o1 H1 S1 np1 r1 s1 => ?_⟩
    with_reducible refine Rd.name ?_
    try dsimp only [Int.reduceToNat, List.set]
    with_reducible refine Rd.seq (Rd.asg (Rd.call (Rd.cons (Rd.var (by walk_at "vr") (Rd.nil ?_)))))
    refine ⟨_, _, rfl, (by walk_at "hp"), (by walk_at "pool"), fun q2 pr vt vf t2 n2 M2 o2 H2 F2 r2 s2 hq2 hr2 em2 ht2 hf2 wf2 na nb ma mb gd al => ?_⟩
    have r0 := fun z : Int => Int.emod_nonneg z (show n2 ≠ 0 by omega)
    have r1_ := fun z : Int => Int.emod_lt_of_pos z (show 0 < n2 by omega)
    refine Rd.gtup (by walk_at "hpt") rfl ?_
    with_reducible refine Rd.gcons (Rd.name (Rd.gcons (Rd.name (Rd.gcons (Rd.name (Rd.gnil (Rd.seq (Rd.asg (Rd.make (Rd.cons (Rd.call ?_)))))))))))
    with_reducible refine Rd.cons (Rd.var (by walk_at "vr") (Rd.cons (Rd.c (Rd.nil ?_))))
    subst em2
    have npr := s2.ntup r2 hr2
    refine ⟨_, (⟨t2.wrap, t2.slot, t2.empty, t2.full, "over"⟩ : Pt), rfl, ⟨_, _, _, rfl, (by walk_at "hp"), ht2.same (by walk_at "frm"), hf2.same (by walk_at "frm")⟩, (wf2.wen (show ("over" : Str) ∈ wWhen by decide +kernel)), fun ps HM SM nps iM => ?_⟩
    have lok : LogOk (⟨t2.wrap, t2.slot, t2.empty, t2.full, "over"⟩ : Pt) n2 := ⟨rfl, gd⟩
    with_reducible refine Rd.cons (Rd.var (by walk_at "vr") (Rd.nil ?_))
    intro bk dbk nbk ndb neb
    refine ⟨_, _, _, (⟨t2.wrap, t2.slot, t2.empty, t2.full, "over"⟩ : Pt), _, rfl, L2.upd_same, iM.same (by walk_at "frm"), (wf2.wen (show ("over" : Str) ∈ wWhen by decide +kernel)), na, nb, ma, lok, fun HL FL rL => ⟨rfl, ?_⟩⟩
    with_reducible refine Rd.name ?_
    try dsimp only [Int.reduceToNat, List.set]
    with_reducible refine Rd.seq ?_
    have nbp : bk ≠ po := ne_none' nbk (by walk_at "hp")
    have npH : H po = none := np1
    have nbH : H bk = none := by walk_at "nn"
    refine Rd.comp (fun Hx => Same H Hx ∧ Hx po = some o2 ∧ PoolO Hx po o2 ∧ Hx bk = some (.ins A.c_Log dbk (fL (modV t2.wrap n2) n2 0))) ⟨by walk_at "frm", (by walk_at "hp"), (by walk_at "pool"), (by walk_at "hp")⟩ (fun Hy ⟨Sy, ry, sy, by_⟩ => ?_)
    clear SM FL
    with_reducible refine Rd.asg (Rd.c (Rd.name ?_))
    try dsimp only [Int.reduceToNat, List.set]
    with_reducible refine Rd.seq (Rd.fr (Rd.rng1 (Rd.cons (Rd.op (Rd.c (Rd.call (Rd.cons (Rd.var (by walk_at "vr") (Rd.cons (Rd.c (Rd.nil ?_)))))))))))
    refine ⟨_, _, _, rfl, (by walk_at "hp"), (by walk_at "pool"), (by walk_at "sc"), (by walk_at "sc"), fun dE oE dEa dEb sE => ?_⟩
    with_reducible refine Rd.i0 (Rd.nil (⟨_, rfl, (by walk_at "sc"), (by walk_at "sc"), ?_⟩))
    refine for_range (lo := 0) (fun (_ : Nat) (σ : L2.St) (H' : Hp) => ∃ (v_k v_kept v_many v_j : Option V) (T : Int) (oo : HO), σ = [some (.ref a), some (.ref po), some (.ref pr), some (.int n2), some (.int (modV t2.wrap n2)), some (.ref bk), some (.int T), v_k, v_kept, v_many, v_j] ∧ Same H H' ∧ H' po = some oo ∧ PoolO H' po oo ∧ H' bk = some (.ins A.c_Log dbk (fL (modV t2.wrap n2) n2 T)) ∧ 0 ≤ T) ⟨_, _, _, _, 0, _, rfl, (by walk_at "frm"), (by walk_at "hp"), (by walk_at "pool"), (by walk_at "hp"), by omega⟩ (fun i σ H0 hi ⟨v_k, v_kept, v_many, v_j, T, oo, es, S0, h1, h2, h3, t0⟩ => ?_) (fun σ H0 ⟨v_k, v_kept, v_many, v_j, T, oo, es, S0, h1, h2, h3, t0⟩ => ?_)
    · subst es
      with_reducible refine Rd.name (Rd.seq (Rd.asg (Rd.var (by walk_at "vr") (Rd.name ?_))))
      try dsimp only [Int.reduceToNat, List.set]
      with_reducible refine Rd.seq (Rd.asg (Rd.call (Rd.cons (Rd.var (by walk_at "vr") (Rd.cons (Rd.c (Rd.nil ?_)))))))
      refine ⟨_, _, _, rfl, (by walk_at "hp"), (by walk_at "pool"), (by walk_at "sc"), (by walk_at "sc"), fun dM oM dMa dMb sM => ?_⟩
      with_reducible refine Rd.name ?_
      try dsimp only [Int.reduceToNat, List.set]
      with_reducible refine Rd.seq ?_
      refine Rd.ifJ (fun σ' H' => ∃ (v_k v_j : Option V) (mm : Int) (oo : HO), σ' = [some (.ref a), some (.ref po), some (.ref pr), some (.int n2), some (.int (modV t2.wrap n2)), some (.ref bk), some (.int T), v_k, some (.ref bk), some (.int mm), v_j] ∧ Same H H' ∧ H' po = some oo ∧ PoolO H' po oo ∧ H' bk = some (.ins A.c_Log dbk (fL (modV t2.wrap n2) n2 T)) ∧ 0 ≤ T ∧ 0 ≤ mm ∧ mm ≤ 10000000000000000000000000000000000000000) ?_ ?_
      · intro key
        with_reducible refine Rd.ifS (Rd.or (Rd.test (Rd.op (Rd.var (by walk_at "vr") (Rd.c (Rd.i0 (Rd.bl ?_)))))))
        refine Rd.ite (fun h0 => ?_) (fun h0 => ?_)
        · try simp only [decide_eq_true_eq, Bool.not_eq_true', decide_eq_false_iff_not, Bool.not_eq_true, Bool.not_eq_eq_eq_not, Bool.not_true, Bool.not_false] at h0
          with_reducible refine Rd.iteT rfl (Rd.asg (Rd.op (Rd.tup (Rd.cons (Rd.op (Rd.c (Rd.c (Rd.iC (by walk_at "scp") (Rd.cons (Rd.call (Rd.cons ?_)))))))))))
          with_reducible refine Rd.var (by walk_at "vr") (Rd.cons (Rd.op (Rd.c (Rd.c (Rd.iC (by walk_at "scp") (Rd.nil ?_))))))
          refine ⟨_, _, _, rfl, (by walk_at "hp"), (by walk_at "pool"), (by first | omega | decide), (by first | omega | decide), fun dV oV dVa dVb sV => ?_⟩
          first | rw [e40] at dVb | rw [e30] at dVb
          with_reducible refine Rd.nil (Rd.laid (by walk_at "ll") ?_)
          intro p0 np0
          with_reducible refine Rd.cB (Rd.cons (Rd.op (Rd.call (Rd.cons (Rd.var (by walk_at "vr") (Rd.cons (Rd.c (Rd.nil ?_))))))))
          refine ⟨_, _, _, rfl, (by walk_at "hp"), (by walk_at "pool"), (by walk_at "sc"), (by walk_at "sc"), fun dB oB dBa dBb sB => ?_⟩
          with_reducible refine Rd.c (Rd.i0 (Rd.nil ((.inr ⟨_, rfl, ?_⟩))))
          obtain ⟨ib1, ib2, ib3, ib4⟩ := idxB (b := decide (dB > 0))
          refine Rd.pickTd (fun v => ∃ i : Int, v = .int i ∧ 0 ≤ i ∧ i ≤ 10000000000000000000000000000000000000000) (by walk_at "hpt") ib1 (by exact ib2) ?_ (fun v_b hv_b => ?_)
          · intro j v hj e
            match j, hj with
            | 0, hj => cases hj; have z := of_decide_eq_false (ib3 e); exact ⟨_, rfl, by omega, by omega⟩
            | 1, hj => cases hj; have z := of_decide_eq_true (ib4 e); exact ⟨_, rfl, by omega, by omega⟩
          obtain ⟨ib, rfl, ibb0, ibb1⟩ := hv_b
          with_reducible refine Rd.name ?_
          try dsimp only [Int.reduceToNat, List.set]
          try dsimp only [Int.reduceToNat] at sB
          exact key _ _ ⟨_, _, _, _, rfl, (by walk_at "frm"), (by walk_at "hp"), (by walk_at "pool"), (by walk_at "hp"), by omega, by omega, by omega⟩
        · try simp only [decide_eq_true_eq, Bool.not_eq_true', decide_eq_false_iff_not, Bool.not_eq_true, Bool.not_eq_eq_eq_not, Bool.not_true, Bool.not_false, Int.not_lt, Int.not_le, Decidable.not_not] at h0
          with_reducible refine Rd.test (Rd.op (Rd.call (Rd.cons (Rd.var (by walk_at "vr") (Rd.cons (Rd.c (Rd.nil ?_)))))))
          refine ⟨_, _, _, rfl, (by walk_at "hp"), (by walk_at "pool"), (by walk_at "sc"), (by walk_at "sc"), fun dE oE dEa dEb sE => ?_⟩
          with_reducible refine Rd.c (Rd.eqS (by walk_at "vr") (Rd.bl ?_))
          refine Rd.ite (fun h1 => ?_) (fun h1 => ?_)
          · try simp only [decide_eq_true_eq, Bool.not_eq_true', decide_eq_false_iff_not, Bool.not_eq_true, Bool.not_eq_eq_eq_not, Bool.not_true, Bool.not_false] at h1
            with_reducible refine Rd.asg (Rd.op (Rd.tup (Rd.cons (Rd.op (Rd.c (Rd.c (Rd.iC (by walk_at "scp") (Rd.cons (Rd.call (Rd.cons (Rd.var (by walk_at "vr") ?_)))))))))))
            with_reducible refine Rd.cons (Rd.op (Rd.c (Rd.c (Rd.iC (by walk_at "scp") (Rd.nil ?_)))))
            refine ⟨_, _, _, rfl, (by walk_at "hp"), (by walk_at "pool"), (by first | omega | decide), (by first | omega | decide), fun dV oV dVa dVb sV => ?_⟩
            first | rw [e40] at dVb | rw [e30] at dVb
            with_reducible refine Rd.nil (Rd.laid (by walk_at "ll") ?_)
            intro p0 np0
            with_reducible refine Rd.cB (Rd.cons (Rd.op (Rd.call (Rd.cons (Rd.var (by walk_at "vr") (Rd.cons (Rd.c (Rd.nil ?_))))))))
            refine ⟨_, _, _, rfl, (by walk_at "hp"), (by walk_at "pool"), (by walk_at "sc"), (by walk_at "sc"), fun dB oB dBa dBb sB => ?_⟩
            with_reducible refine Rd.c (Rd.i0 (Rd.nil ((.inr ⟨_, rfl, ?_⟩))))
            obtain ⟨ib1, ib2, ib3, ib4⟩ := idxB (b := decide (dB > 0))
            refine Rd.pickTd (fun v => ∃ i : Int, v = .int i ∧ 0 ≤ i ∧ i ≤ 10000000000000000000000000000000000000000) (by walk_at "hpt") ib1 (by exact ib2) ?_ (fun v_b hv_b => ?_)
            · intro j v hj e
              match j, hj with
              | 0, hj => cases hj; have z := of_decide_eq_false (ib3 e); exact ⟨_, rfl, by omega, by omega⟩
              | 1, hj => cases hj; have z := of_decide_eq_true (ib4 e); exact ⟨_, rfl, by omega, by omega⟩
            obtain ⟨ib, rfl, ibb0, ibb1⟩ := hv_b
            with_reducible refine Rd.name ?_
            try dsimp only [Int.reduceToNat, List.set]
            try dsimp only [Int.reduceToNat] at sB
            exact key _ _ ⟨_, _, _, _, rfl, (by walk_at "frm"), (by walk_at "hp"), (by walk_at "pool"), (by walk_at "hp"), by omega, by omega, by omega⟩
          · try simp only [decide_eq_true_eq, Bool.not_eq_true', decide_eq_false_iff_not, Bool.not_eq_true, Bool.not_eq_eq_eq_not, Bool.not_true, Bool.not_false, Int.not_lt, Int.not_le, Decidable.not_not] at h1
            with_reducible refine Rd.next ?_
            try dsimp only [Int.reduceToNat] at sB
            exact key _ _ ⟨_, _, _, _, rfl, (by walk_at "frm"), (by walk_at "hp"), (by walk_at "pool"), (by walk_at "hp"), by omega, by omega, by omega⟩
      · rintro σ' Hc ⟨v_k, v_j, mm, oc, rfl, Sc, c1, c2, c3, t0', mm0, mm1⟩
        with_reducible refine Rd.seq (Rd.aug (by walk_at "vr") (Rd.var (by walk_at "vr") (Own.iop2 (by walk_at "hp") ?_)))
        refine ⟨_, _, _, _, _, _, rfl, (by walk_at "hp"), .inl ⟨_, rfl, (by omega), (by omega), ?_⟩⟩
        with_reducible refine Rd.seq (Rd.asg (Rd.op (Rd.var (by walk_at "vr") (Rd.var (by walk_at "vr") (Rd.i0 (Rd.name ?_))))))
        try dsimp only [Int.reduceToNat, List.set]
        with_reducible refine Rd.seq (Rd.ifS (Rd.or (Rd.test (Rd.op (Rd.prop (Rd.var (by walk_at "vr") (⟨_, _, _, rfl, (by walk_at "hp"), ?_⟩)))))))
        refine ⟨_, _, _, _, _, rfl, (by walk_at "hp"), ?_⟩
        with_reducible refine Rd.var (by walk_at "vr") (Rd.neS (by walk_at "vr") (Rd.bl (Rd.iteF (by walk_at "bF") (Rd.or (Rd.test (Rd.op (Rd.prop (Rd.var (by walk_at "vr") (⟨_, _, _, rfl, (by walk_at "hp"), ?_⟩)))))))))
        refine ⟨_, _, _, _, _, rfl, (by walk_at "hp"), ?_⟩
        with_reducible refine Rd.var (by walk_at "vr") (Rd.neS (by walk_at "vr") (Rd.bl (Rd.iteF (by walk_at "bF") (Rd.test (Rd.op (Rd.prop (Rd.var (by walk_at "vr") (⟨_, _, _, rfl, (by walk_at "hp"), ?_⟩))))))))
        refine ⟨_, _, _, _, _, rfl, (by walk_at "hp"), ?_⟩
        with_reducible refine Rd.op (Rd.tup (Rd.cons (Rd.var (by walk_at "vr") (Rd.cons (Rd.var (by walk_at "vr") (Rd.nil (Rd.laid (by walk_at "ll") ?_)))))))
        intro p1 np1
        with_reducible refine Rd.cB (Rd.cons (Rd.op (Rd.var (by walk_at "vr") (Rd.var (by walk_at "vr") (Rd.i0 (Rd.nil ((.inr ⟨_, rfl, ?_⟩))))))))
        obtain ⟨ib1, ib2, ib3, ib4⟩ := idxB (b := decide ((T + mm) > n2))
        refine Rd.pickTd (fun v => v = .int (if n2 < (T + mm) then n2 else (T + mm))) (by walk_at "hpt") ib1 (by exact ib2) ?_ (fun v_h hv_h => ?_)
        · intro j v hj e
          match j, hj with
          | 0, hj => cases hj; have z := of_decide_eq_false (ib3 e); exact (by rw [if_neg (by omega)])
          | 1, hj => cases hj; have z := of_decide_eq_true (ib4 e); exact (by rw [if_pos (by omega)])
        subst hv_h
        with_reducible refine Rd.neS (by walk_at "vr") (Rd.bl (Rd.iteF (by walk_at "bF") (Rd.next (Rd.seq (Rd.ifS (Rd.or (Rd.not (Rd.tb (Rd.call (Rd.cons (Rd.var (by walk_at "vr") ?_)))))))))))
        with_reducible refine Rd.cons (Rd.op (Rd.tup (Rd.cons (Rd.un (Rd.c (Rd.iU (Rd.cons (Rd.op (Rd.op (Rd.c (Rd.c ?_)))))))))))
        with_reducible refine Rd.iC (by walk_at "scp") (Rd.c (Rd.i0 (Rd.cons (Rd.c (Rd.nil (Rd.laid (by walk_at "ll") ?_))))))
        intro p2 np2
        with_reducible refine Rd.call (Rd.cons (Rd.var (by walk_at "vr") (Rd.cons (Rd.c (Rd.nil ?_)))))
        refine ⟨_, _, _, rfl, (by walk_at "hp"), (by walk_at "pool"), (by walk_at "sc"), (by walk_at "sc"), fun dZ oZ dZa dZb sZ => ?_⟩
        refine Rd.pickT (fun v => v = .int (-1) ∨ (∃ i : Int, v = .int i ∧ 0 ≤ i ∧ 10000000000000000000000000000000000000000 < i) ∨ v = .bl true) (by walk_at "hpt") (by intro v hv; simp only [List.mem_cons, List.not_mem_nil, or_false] at hv; rcases hv with rfl | rfl | rfl <;> exact (by first | exact .inl rfl | exact .inr (.inr rfl) | exact .inr (.inl ⟨_, rfl, by omega, by omega⟩))) (by omega) (by show (_ : Int) < ((3 : Nat) : Int); omega) (fun v_w hv_w => ?_)
        with_reducible refine Rd.nil ?_
        refine ⟨_, _, _, _, _, _, rfl, (by walk_at "hp"), bad3 hv_w, fun H17 S17 => ?_⟩
        with_reducible refine Rd.bl (Rd.iteF (by walk_at "bF") (Rd.test (Rd.op (Rd.prop (Rd.var (by walk_at "vr") (⟨_, _, _, rfl, (by walk_at "hp"), ?_⟩))))))
        refine ⟨_, _, _, _, _, rfl, (by walk_at "hp"), ?_⟩
        with_reducible refine Rd.var (by walk_at "vr") (Rd.neS (by walk_at "vr") (Rd.bl (Rd.iteF (by walk_at "bF") (Rd.next (Rd.fr (Rd.rng1 (Rd.cons (Rd.c (Rd.nil (⟨_, rfl, (by walk_at "sc"), (by walk_at "sc"), ?_⟩))))))))))
        refine for_range (lo := 0) (fun (_ : Nat) (σ : L2.St) (H' : Hp) => ∃ (v_k v_kept v_many v_j : Option V) (oo : HO), σ = [some (.ref a), some (.ref po), some (.ref pr), some (.int n2), some (.int (modV t2.wrap n2)), some (.ref bk), some (.int (T + mm)), v_k, v_kept, v_many, v_j] ∧ Same H H' ∧ H' po = some oo ∧ PoolO H' po oo ∧ H' bk = some (.ins A.c_Log dbk (fL (modV t2.wrap n2) n2 (T + mm))) ∧ 0 ≤ T + mm) ⟨_, _, _, _, _, rfl, (by walk_at "frm"), (by walk_at "hp"), (by walk_at "pool"), (by walk_at "hp"), by omega⟩ (fun ij σ Hj hij ⟨v_k, v_kept, v_many, v_j, oj, es, Sj, j1, j2, j3, j4⟩ => ?_) (fun σ Hj ⟨v_k, v_kept, v_many, v_j, oj, es, Sj, j1, j2, j3, j4⟩ => ?_)
        · subst es
          with_reducible refine Rd.name (Rd.ifS (Rd.not (Rd.tb (Rd.call (Rd.cons (Rd.var (by walk_at "vr") (Rd.cons (Rd.op (Rd.tup (Rd.cons (Rd.op ?_)))))))))))
          with_reducible refine Rd.cB (Rd.cons (Rd.call (Rd.cons (Rd.var (by walk_at "vr") (Rd.cons (Rd.op (Rd.c (Rd.c (Rd.iC (by walk_at "scp") (Rd.nil ?_))))))))))
          refine ⟨_, _, _, rfl, (by walk_at "hp"), (by walk_at "pool"), (by first | omega | decide), (by first | omega | decide), fun dP oP dPa dPb sP => ?_⟩
          first | rw [e40] at dPb | rw [e30] at dPb
          with_reducible refine Rd.nil ((.inl ⟨_, rfl, (Rd.var (by walk_at "vr") (Rd.iC (by walk_at "sc") (Rd.cons (Rd.op (Rd.cB (Rd.cons (Rd.var (by walk_at "vr") (Rd.nil ((.inl ⟨_, rfl, (Rd.var (by walk_at "vr") ?_)⟩))))))))))⟩))
          with_reducible refine Rd.iC (by walk_at "sc") (Rd.nil (Rd.laid (by walk_at "ll") ?_))
          intro p3 np3
          with_reducible refine Rd.cB (Rd.cons (Rd.op (Rd.var (by walk_at "vr") (Rd.c (Rd.i0 (Rd.nil ((.inr ⟨_, rfl, ?_⟩))))))))
          obtain ⟨ib1, ib2, ib3, ib4⟩ := idxB (b := decide (n2 < 5))
          refine Rd.pickTd (fun v => ∃ i : Int, v = .int i ∧ 0 ≤ i ∧ i < n2) (by walk_at "hpt") ib1 (by exact ib2) ?_ (fun v_p hv_p => ?_)
          · intro j v hj e
            match j, hj with
            | 0, hj => cases hj; have z := of_decide_eq_false (ib3 e); exact ⟨_, rfl, r0 _, r1_ _⟩
            | 1, hj => cases hj; have z := of_decide_eq_true (ib4 e); exact ⟨_, rfl, r0 _, r1_ _⟩
          obtain ⟨pj, rfl, pj0, pj1⟩ := hv_p
          with_reducible refine Rd.cons (Rd.var (by walk_at "vr") (Rd.cons (Rd.var (by walk_at "vr") (Rd.nil ?_))))
          refine ⟨_, _, _, _, 0, _, _, rfl, (by walk_at "hp"), (by omega), (by omega), (by omega), (by omega), (by omega), fun H20 S20 => ?_⟩
          with_reducible refine Rd.bl (Rd.iteF (by walk_at "bF") (Rd.next ?_))
          exact ⟨_, _, _, _, _, rfl, (by walk_at "frm"), (by walk_at "hp"), (by walk_at "pool"), (by walk_at "hp"), by omega⟩
        · subst es
          exact ⟨_, _, _, _, _, _, rfl, (by walk_at "frm"), (by walk_at "hp"), (by walk_at "pool"), (by walk_at "hp"), by omega⟩
    · subst es
      with_reducible refine Rd.ret (Rd.call (Rd.cons (Rd.var (by walk_at "vr") (Rd.cons (Rd.var (by walk_at "vr") (Rd.nil ?_))))))
      refine ⟨_, _, _, _, _, rfl, (by walk_at "hp"), (by omega), fun H21 S21 => ?_⟩
      exact k _
end
theorem all_mk {l : PySem.W.OpenLaw} {w : World} {K : PySem.W.Frag} {h : Heap} {mg : Str → Option Value} {fa f_has_outside f_is_whole f_is_whole_from f_is_word_of f_is_size f_check_size f_Formu__initu_ f_form_at f_Scheme_wrap f_wrap_at f_modulus_of f_Scheme_slot f_Scheme_when f_log_modulus f_Logu__initu_ f_check_lag f_Logu__iaddu_ f_Log_put_count f_Log_held f_Logu__getitemu_ f_is_small_form f_is_full f_is_wrap f_is_part f_first_wrong f_Schemeu__initu_ f_l_mixed f_l_pool f_l_draw f_l_wide f_l_made f_l_power f_l_setting f_l_slot_is f_l_refuses f_l_no_number f_law c_Form c_Scheme c_RingError c_Log c_NoSize c_NoRing c_NotDecided c_NoLag c_Outside p_Scheme_wrap p_Scheme_slot p_Scheme_when p_Log_put_count p_Log_held : Addr} (X : K.In h) (G : h.Ns mainGlobals mg) (hfa : mg "law" = some (.ref fa))
    {fd_has_outside : FuncData}
    {fd_is_whole : FuncData}
    {fd_is_whole_from : FuncData}
    {fd_is_word_of : FuncData}
    {fd_is_size : FuncData}
    {fd_check_size : FuncData}
    {fd_Formu__initu_ : FuncData}
    {fd_form_at : FuncData}
    {fd_Scheme_wrap : FuncData}
    {fd_wrap_at : FuncData}
    {fd_modulus_of : FuncData}
    {fd_Scheme_slot : FuncData}
    {fd_Scheme_when : FuncData}
    {fd_log_modulus : FuncData}
    {fd_Logu__initu_ : FuncData}
    {fd_check_lag : FuncData}
    {fd_Logu__iaddu_ : FuncData}
    {fd_Log_put_count : FuncData}
    {fd_Log_held : FuncData}
    {fd_Logu__getitemu_ : FuncData}
    {fd_is_small_form : FuncData}
    {fd_is_full : FuncData}
    {fd_is_wrap : FuncData}
    {fd_is_part : FuncData}
    {fd_first_wrong : FuncData}
    {fd_Schemeu__initu_ : FuncData}
    {fd_l_mixed : FuncData}
    {fd_l_pool : FuncData}
    {fd_l_draw : FuncData}
    {fd_l_wide : FuncData}
    {fd_l_made : FuncData}
    {fd_l_power : FuncData}
    {fd_l_setting : FuncData}
    {fd_l_slot_is : FuncData}
    {fd_l_refuses : FuncData}
    {fd_l_no_number : FuncData}
    {fd_law : FuncData}
    {t_GREATEST_SIZE : Tok}
    {t_PART_NAMES : Addr}
    {t_PART_WORDS : Addr}
    {t_PART_WORDS_slot : Addr}
    {t_PART_WORDS_empty : Addr}
    {t_PART_WORDS_when : Addr}
    {t_MEASURES : Addr}
    {t_SIGNS : Addr}
    {t_PLAIN_FULLS : Addr}
    {t_GREATEST_SLOPE : Tok}
    {t_GREATEST_BASE : Tok}
    {t_GREATEST_WIDTH : Tok}
    {t_GREATEST_LAG : Tok}
    {es_PART_WORDS : Array DictEntry}
    {nd_PART_WORDS : Nat}
    {rs_Scheme_wrap : List Value}
    {rs_Scheme_slot : List Value}
    {rs_Scheme_when : List Value}
    {rs_Log_put_count : List Value}
    {rs_Log_held : List Value}
    (h_n_abs : PySem.W.nsIn K mainGlobals "abs" = some none)
    (h_n_bool : PySem.W.nsIn K mainGlobals "bool" = some none)
    (h_n_int : PySem.W.nsIn K mainGlobals "int" = some none)
    (h_n_isinstance : PySem.W.nsIn K mainGlobals "isinstance" = some none)
    (h_n_len : PySem.W.nsIn K mainGlobals "len" = some none)
    (h_n_max : PySem.W.nsIn K mainGlobals "max" = some none)
    (h_n_min : PySem.W.nsIn K mainGlobals "min" = some none)
    (h_n_range : PySem.W.nsIn K mainGlobals "range" = some none)
    (h_n_str : PySem.W.nsIn K mainGlobals "str" = some none)
    (h_n_tuple : PySem.W.nsIn K mainGlobals "tuple" = some none)
    (h_m_GREATEST_SIZE : PySem.W.nsIn K mainGlobals "GREATEST_SIZE" = some (some (.int (1000000000000000000000000000000) t_GREATEST_SIZE)))
    (h_m_PART_NAMES : PySem.W.nsIn K mainGlobals "PART_NAMES" = some (some (.ref t_PART_NAMES)))
    (h_m_PART_WORDS : PySem.W.nsIn K mainGlobals "PART_WORDS" = some (some (.ref t_PART_WORDS)))
    (h_m_MEASURES : PySem.W.nsIn K mainGlobals "MEASURES" = some (some (.ref t_MEASURES)))
    (h_m_SIGNS : PySem.W.nsIn K mainGlobals "SIGNS" = some (some (.ref t_SIGNS)))
    (h_m_PLAIN_FULLS : PySem.W.nsIn K mainGlobals "PLAIN_FULLS" = some (some (.ref t_PLAIN_FULLS)))
    (h_m_GREATEST_SLOPE : PySem.W.nsIn K mainGlobals "GREATEST_SLOPE" = some (some (.int (4) t_GREATEST_SLOPE)))
    (h_m_GREATEST_BASE : PySem.W.nsIn K mainGlobals "GREATEST_BASE" = some (some (.int (20) t_GREATEST_BASE)))
    (h_m_GREATEST_WIDTH : PySem.W.nsIn K mainGlobals "GREATEST_WIDTH" = some (some (.int (100) t_GREATEST_WIDTH)))
    (h_m_GREATEST_LAG : PySem.W.nsIn K mainGlobals "GREATEST_LAG" = some (some (.int (10000000000000000000000000000000000000000) t_GREATEST_LAG)))
    (h_m_NoSize : PySem.W.nsIn K mainGlobals "NoSize" = some (some (.ref c_NoSize)))
    (h_m_NoRing : PySem.W.nsIn K mainGlobals "NoRing" = some (some (.ref c_NoRing)))
    (h_m_NotDecided : PySem.W.nsIn K mainGlobals "NotDecided" = some (some (.ref c_NotDecided)))
    (h_m_NoLag : PySem.W.nsIn K mainGlobals "NoLag" = some (some (.ref c_NoLag)))
    (h_m_Outside : PySem.W.nsIn K mainGlobals "Outside" = some (some (.ref c_Outside)))
    (h_m_Form : PySem.W.nsIn K mainGlobals "Form" = some (some (.ref c_Form)))
    (h_n_Form_slope : PySem.W.findIn K (.ref c_Form) "slope" = some none)
    (h_n_Form_base : PySem.W.findIn K (.ref c_Form) "base" = some none)
    (h_m_Scheme : PySem.W.nsIn K mainGlobals "Scheme" = some (some (.ref c_Scheme)))
    (h_n_Scheme_parts : PySem.W.findIn K (.ref c_Scheme) "_parts" = some none)
    (h_m_RingError : PySem.W.nsIn K mainGlobals "RingError" = some (some (.ref c_RingError)))
    (h_m_Log : PySem.W.nsIn K mainGlobals "Log" = some (some (.ref c_Log)))
    (h_n_Log_modulus : PySem.W.findIn K (.ref c_Log) "modulus" = some none)
    (h_n_Log_size : PySem.W.findIn K (.ref c_Log) "size" = some none)
    (h_n_Log_put_count : PySem.W.findIn K (.ref c_Log) "_put_count" = some none)
    (h_m_has_outside : PySem.W.nsIn K mainGlobals "has_outside" = some (some (.ref f_has_outside)))
    (h_m_is_whole : PySem.W.nsIn K mainGlobals "is_whole" = some (some (.ref f_is_whole)))
    (h_m_is_whole_from : PySem.W.nsIn K mainGlobals "is_whole_from" = some (some (.ref f_is_whole_from)))
    (h_m_is_word_of : PySem.W.nsIn K mainGlobals "is_word_of" = some (some (.ref f_is_word_of)))
    (h_m_is_size : PySem.W.nsIn K mainGlobals "is_size" = some (some (.ref f_is_size)))
    (h_m_check_size : PySem.W.nsIn K mainGlobals "check_size" = some (some (.ref f_check_size)))
    (h_m_form_at : PySem.W.nsIn K mainGlobals "form_at" = some (some (.ref f_form_at)))
    (h_m_wrap_at : PySem.W.nsIn K mainGlobals "wrap_at" = some (some (.ref f_wrap_at)))
    (h_m_modulus_of : PySem.W.nsIn K mainGlobals "modulus_of" = some (some (.ref f_modulus_of)))
    (h_m_log_modulus : PySem.W.nsIn K mainGlobals "log_modulus" = some (some (.ref f_log_modulus)))
    (h_m_check_lag : PySem.W.nsIn K mainGlobals "check_lag" = some (some (.ref f_check_lag)))
    (h_m_is_small_form : PySem.W.nsIn K mainGlobals "is_small_form" = some (some (.ref f_is_small_form)))
    (h_m_is_full : PySem.W.nsIn K mainGlobals "is_full" = some (some (.ref f_is_full)))
    (h_m_is_wrap : PySem.W.nsIn K mainGlobals "is_wrap" = some (some (.ref f_is_wrap)))
    (h_m_is_part : PySem.W.nsIn K mainGlobals "is_part" = some (some (.ref f_is_part)))
    (h_m_first_wrong : PySem.W.nsIn K mainGlobals "first_wrong" = some (some (.ref f_first_wrong)))
    (h_m_l_mixed : PySem.W.nsIn K mainGlobals "_law_mixed" = some (some (.ref f_l_mixed)))
    (h_m_l_pool : PySem.W.nsIn K mainGlobals "_law_pool" = some (some (.ref f_l_pool)))
    (h_m_l_draw : PySem.W.nsIn K mainGlobals "_law_draw" = some (some (.ref f_l_draw)))
    (h_m_l_wide : PySem.W.nsIn K mainGlobals "_law_wide" = some (some (.ref f_l_wide)))
    (h_m_l_made : PySem.W.nsIn K mainGlobals "_law_made" = some (some (.ref f_l_made)))
    (h_m_l_power : PySem.W.nsIn K mainGlobals "_law_power" = some (some (.ref f_l_power)))
    (h_m_l_setting : PySem.W.nsIn K mainGlobals "_law_setting" = some (some (.ref f_l_setting)))
    (h_m_l_slot_is : PySem.W.nsIn K mainGlobals "_law_slot_is" = some (some (.ref f_l_slot_is)))
    (h_m_l_refuses : PySem.W.nsIn K mainGlobals "_law_refuses" = some (some (.ref f_l_refuses)))
    (h_m_l_no_number : PySem.W.nsIn K mainGlobals "_law_no_number" = some (some (.ref f_l_no_number)))
    (h_m_law : PySem.W.nsIn K mainGlobals "law" = some (some (.ref f_law)))
    (h_in_Form : PySem.W.findIn K (.ref c_Form) "__init__" = some (some (.ref f_Formu__initu_)))
    (h_in_Scheme : PySem.W.findIn K (.ref c_Scheme) "__init__" = some (some (.ref f_Schemeu__initu_)))
    (h_in_Log : PySem.W.findIn K (.ref c_Log) "__init__" = some (some (.ref f_Logu__initu_)))
    (h_a1_Scheme_wrap : PySem.W.findIn K (.ref c_Scheme) "wrap" = some (some (.ref p_Scheme_wrap)))
    (h_a1_Scheme_slot : PySem.W.findIn K (.ref c_Scheme) "slot" = some (some (.ref p_Scheme_slot)))
    (h_a1_Scheme_when : PySem.W.findIn K (.ref c_Scheme) "when" = some (some (.ref p_Scheme_when)))
    (h_bx_Logu__iaddu_ : PySem.W.findIn K (.ref c_Log) (dunderI (Operator.info .Add).2) = some (some (.ref f_Logu__iaddu_)))
    (h_a1_Log_put_count : PySem.W.findIn K (.ref c_Log) "put_count" = some (some (.ref p_Log_put_count)))
    (h_a1_Log_held : PySem.W.findIn K (.ref c_Log) "held" = some (some (.ref p_Log_held)))
    (h_a_Logu__getitemu_ : PySem.W.findIn K (.ref c_Log) "__getitem__" = some (some (.ref f_Logu__getitemu_)))
    (h_ns_PART_WORDS_slot : PySem.W.nsIn K t_PART_WORDS "slot" = some (some (.ref t_PART_WORDS_slot)))
    (h_ns_PART_WORDS_empty : PySem.W.nsIn K t_PART_WORDS "empty" = some (some (.ref t_PART_WORDS_empty)))
    (h_ns_PART_WORDS_when : PySem.W.nsIn K t_PART_WORDS "when" = some (some (.ref t_PART_WORDS_when)))
    (h_a2_Scheme_wrap : PySem.W.recIn K p_Scheme_wrap "property" = some (.ref f_Scheme_wrap :: rs_Scheme_wrap))
    (h_a2_Scheme_slot : PySem.W.recIn K p_Scheme_slot "property" = some (.ref f_Scheme_slot :: rs_Scheme_slot))
    (h_a2_Scheme_when : PySem.W.recIn K p_Scheme_when "property" = some (.ref f_Scheme_when :: rs_Scheme_when))
    (h_a2_Log_put_count : PySem.W.recIn K p_Log_put_count "property" = some (.ref f_Log_put_count :: rs_Log_put_count))
    (h_a2_Log_held : PySem.W.recIn K p_Log_held "property" = some (.ref f_Log_held :: rs_Log_held))
    (h_lD_PART_WORDS : K.lookup t_PART_WORDS = some ⟨.type "dict", none, .dict es_PART_WORDS nd_PART_WORDS, #[]⟩)
    (h_tq_PART_NAMES : Hd.tupB K t_PART_NAMES [.str "wrap", .str "slot", .str "empty", .str "full", .str "when"] = true)
    (h_tq_PART_WORDS_slot : Hd.tupB K t_PART_WORDS_slot [.str "rest", .str "off", .str "mask"] = true)
    (h_zk_PART_WORDS : PySem.W.KeysLit w.params es_PART_WORDS.toList)
    (h_tq_PART_WORDS_empty : Hd.tupB K t_PART_WORDS_empty [.str "same", .str "count", .str "note"] = true)
    (h_tq_PART_WORDS_when : Hd.tupB K t_PART_WORDS_when [.str "refuse", .str "drop", .str "over"] = true)
    (h_tq_MEASURES : Hd.tupB K t_MEASURES [.str "diff", .str "count"] = true)
    (h_tq_SIGNS : Hd.tupB K t_SIGNS [.str "=", .str ">="] = true)
    (h_tq_PLAIN_FULLS : Hd.tupB K t_PLAIN_FULLS [.str "next", .str "note"] = true)
    (h_x_NoSize : PySem.W.excIn K c_NoSize [.type "ValueError", .type "Exception", .type "BaseException", .type "object"] "ValueError.__new__" = true)
    (h_kp_NoSize : PySem.W.keepIn K (.ref c_NoSize) = true)
    (h_sb_NoSize : PySem.W.subIn K (.ref c_NoSize) (.type "BaseException") = some true)
    (h_tc_NoSize : PySem.W.typeIn K (.ref c_NoSize) = some (.type "type"))
    (h_x_NoRing : PySem.W.excIn K c_NoRing [.type "ValueError", .type "Exception", .type "BaseException", .type "object"] "ValueError.__new__" = true)
    (h_kp_NoRing : PySem.W.keepIn K (.ref c_NoRing) = true)
    (h_sb_NoRing : PySem.W.subIn K (.ref c_NoRing) (.type "BaseException") = some true)
    (h_tc_NoRing : PySem.W.typeIn K (.ref c_NoRing) = some (.type "type"))
    (h_x_NotDecided : PySem.W.excIn K c_NotDecided [.type "ValueError", .type "Exception", .type "BaseException", .type "object"] "ValueError.__new__" = true)
    (h_kp_NotDecided : PySem.W.keepIn K (.ref c_NotDecided) = true)
    (h_sb_NotDecided : PySem.W.subIn K (.ref c_NotDecided) (.type "BaseException") = some true)
    (h_tc_NotDecided : PySem.W.typeIn K (.ref c_NotDecided) = some (.type "type"))
    (h_x_NoLag : PySem.W.excIn K c_NoLag [.type "ValueError", .type "Exception", .type "BaseException", .type "object"] "ValueError.__new__" = true)
    (h_kp_NoLag : PySem.W.keepIn K (.ref c_NoLag) = true)
    (h_sb_NoLag : PySem.W.subIn K (.ref c_NoLag) (.type "BaseException") = some true)
    (h_tc_NoLag : PySem.W.typeIn K (.ref c_NoLag) = some (.type "type"))
    (h_x_Outside : PySem.W.excIn K c_Outside [.type "ValueError", .type "Exception", .type "BaseException", .type "object"] "ValueError.__new__" = true)
    (h_kp_Outside : PySem.W.keepIn K (.ref c_Outside) = true)
    (h_sb_Outside : PySem.W.subIn K (.ref c_Outside) (.type "BaseException") = some true)
    (h_tc_Outside : PySem.W.typeIn K (.ref c_Outside) = some (.type "type"))
    (h_pg_Form : PySem.W.plainGet K c_Form Str.empty = true)
    (h_hd_Form : PySem.W.hasDictIn K c_Form = true)
    (h_po_Form : PySem.W.plainOver K c_Form = true)
    (h_sa_Form : PySem.W.findIn K (.ref c_Form) "__setattr__" = some (some (.builtin "object.__setattr__")))
    (h_mk_Form : PySem.W.makesIn K c_Form = true)
    (h_ii_Form : PySem.W.isFn K (.ref f_Formu__initu_) = true)
    (h_kp_Form : PySem.W.keepIn K (.ref c_Form) = true)
    (h_ha_Form : PySem.W.findIn K (.ref c_Form) "__class__" = some (some (.builtin "object.__class__")))
    (h_mo_Form : PySem.W.mroIn K c_Form (.type "object") = some true)
    (h_hn_Form : PySem.W.specialIn K (.builtin "object.__class__") "__get__" = some (some (.builtin "getset_descriptor.__get__")))
    (h_htk_Form : PySem.W.takesIn K (.builtin "object.__class__") = some true)
    (h_kt_Form_Form : PySem.W.kitOne K (.ref c_Form) (.ref c_Form) = some true)
    (h_kt_int_Form : PySem.W.kitOne K (.type "int") (.ref c_Form) = some false)
    (h_pg_Scheme : PySem.W.plainGet K c_Scheme Str.empty = true)
    (h_hd_Scheme : PySem.W.hasDictIn K c_Scheme = true)
    (h_po_Scheme : PySem.W.plainOver K c_Scheme = true)
    (h_sa_Scheme : PySem.W.findIn K (.ref c_Scheme) "__setattr__" = some (some (.builtin "object.__setattr__")))
    (h_mk_Scheme : PySem.W.makesIn K c_Scheme = true)
    (h_ii_Scheme : PySem.W.isFn K (.ref f_Schemeu__initu_) = true)
    (h_kp_Scheme : PySem.W.keepIn K (.ref c_Scheme) = true)
    (h_pg_Log : PySem.W.plainGet K c_Log Str.empty = true)
    (h_hd_Log : PySem.W.hasDictIn K c_Log = true)
    (h_po_Log : PySem.W.plainOver K c_Log = true)
    (h_sa_Log : PySem.W.findIn K (.ref c_Log) "__setattr__" = some (some (.builtin "object.__setattr__")))
    (h_mk_Log : PySem.W.makesIn K c_Log = true)
    (h_ii_Log : PySem.W.isFn K (.ref f_Logu__initu_) = true)
    (h_kp_Log : PySem.W.keepIn K (.ref c_Log) = true)
    (h_F_has_outside : FunD K "has_outside" "has_outside" (defArgs s_has_outside) (defBody s_has_outside) (defScope s_has_outside) [] [] f_has_outside fd_has_outside)
    (h_F_is_whole : FunD K "is_whole" "is_whole" (defArgs s_is_whole) (defBody s_is_whole) (defScope s_is_whole) [] [] f_is_whole fd_is_whole)
    (h_F_is_whole_from : FunD K "is_whole_from" "is_whole_from" (defArgs s_is_whole_from) (defBody s_is_whole_from) (defScope s_is_whole_from) [] [] f_is_whole_from fd_is_whole_from)
    (h_F_is_word_of : FunD K "is_word_of" "is_word_of" (defArgs s_is_word_of) (defBody s_is_word_of) (defScope s_is_word_of) [] [] f_is_word_of fd_is_word_of)
    (h_F_is_size : FunD K "is_size" "is_size" (defArgs s_is_size) (defBody s_is_size) (defScope s_is_size) [] [] f_is_size fd_is_size)
    (h_F_check_size : FunD K "check_size" "check_size" (defArgs s_check_size) (defBody s_check_size) (defScope s_check_size) [] [] f_check_size fd_check_size)
    (h_F_Formu__initu_ : FunD K "__init__" "Form.__init__" (defArgs s_Formu__initu_) (defBody s_Formu__initu_) (defScope s_Formu__initu_) [] [] f_Formu__initu_ fd_Formu__initu_)
    (h_F_form_at : FunD K "form_at" "form_at" (defArgs s_form_at) (defBody s_form_at) (defScope s_form_at) [] [] f_form_at fd_form_at)
    (h_F_Scheme_wrap : FunD K "wrap" "Scheme.wrap" (defArgs s_Scheme_wrap) (defBody s_Scheme_wrap) (defScope s_Scheme_wrap) [] [] f_Scheme_wrap fd_Scheme_wrap)
    (h_F_wrap_at : FunD K "wrap_at" "wrap_at" (defArgs s_wrap_at) (defBody s_wrap_at) (defScope s_wrap_at) [] [] f_wrap_at fd_wrap_at)
    (h_F_modulus_of : FunD K "modulus_of" "modulus_of" (defArgs s_modulus_of) (defBody s_modulus_of) (defScope s_modulus_of) [] [] f_modulus_of fd_modulus_of)
    (h_F_Scheme_slot : FunD K "slot" "Scheme.slot" (defArgs s_Scheme_slot) (defBody s_Scheme_slot) (defScope s_Scheme_slot) [] [] f_Scheme_slot fd_Scheme_slot)
    (h_F_Scheme_when : FunD K "when" "Scheme.when" (defArgs s_Scheme_when) (defBody s_Scheme_when) (defScope s_Scheme_when) [] [] f_Scheme_when fd_Scheme_when)
    (h_F_log_modulus : FunD K "log_modulus" "log_modulus" (defArgs s_log_modulus) (defBody s_log_modulus) (defScope s_log_modulus) [] [] f_log_modulus fd_log_modulus)
    (h_F_Logu__initu_ : FunD K "__init__" "Log.__init__" (defArgs s_Logu__initu_) (defBody s_Logu__initu_) (defScope s_Logu__initu_) [] [] f_Logu__initu_ fd_Logu__initu_)
    (h_F_check_lag : FunD K "check_lag" "check_lag" (defArgs s_check_lag) (defBody s_check_lag) (defScope s_check_lag) [] [] f_check_lag fd_check_lag)
    (h_F_Logu__iaddu_ : FunD K "__iadd__" "Log.__iadd__" (defArgs s_Logu__iaddu_) (defBody s_Logu__iaddu_) (defScope s_Logu__iaddu_) [] [] f_Logu__iaddu_ fd_Logu__iaddu_)
    (h_F_Log_put_count : FunD K "put_count" "Log.put_count" (defArgs s_Log_put_count) (defBody s_Log_put_count) (defScope s_Log_put_count) [] [] f_Log_put_count fd_Log_put_count)
    (h_F_Log_held : FunD K "held" "Log.held" (defArgs s_Log_held) (defBody s_Log_held) (defScope s_Log_held) [] [] f_Log_held fd_Log_held)
    (h_F_Logu__getitemu_ : FunD K "__getitem__" "Log.__getitem__" (defArgs s_Logu__getitemu_) (defBody s_Logu__getitemu_) (defScope s_Logu__getitemu_) [] [] f_Logu__getitemu_ fd_Logu__getitemu_)
    (h_F_is_small_form : FunD K "is_small_form" "is_small_form" (defArgs s_is_small_form) (defBody s_is_small_form) (defScope s_is_small_form) [] [] f_is_small_form fd_is_small_form)
    (h_F_is_full : FunD K "is_full" "is_full" (defArgs s_is_full) (defBody s_is_full) (defScope s_is_full) [] [] f_is_full fd_is_full)
    (h_F_is_wrap : FunD K "is_wrap" "is_wrap" (defArgs s_is_wrap) (defBody s_is_wrap) (defScope s_is_wrap) [] [] f_is_wrap fd_is_wrap)
    (h_F_is_part : FunD K "is_part" "is_part" (defArgs s_is_part) (defBody s_is_part) (defScope s_is_part) [] [] f_is_part fd_is_part)
    (h_F_first_wrong : FunD K "first_wrong" "first_wrong" (defArgs s_first_wrong) (defBody s_first_wrong) (defScope s_first_wrong) [] [] f_first_wrong fd_first_wrong)
    (h_F_Schemeu__initu_ : FunD K "__init__" "Scheme.__init__" (defArgs s_Schemeu__initu_) (defBody s_Schemeu__initu_) (defScope s_Schemeu__initu_) [] [("when", .str "refuse")] f_Schemeu__initu_ fd_Schemeu__initu_)
    (h_F_l_mixed : FunD K "_law_mixed" "_law_mixed" (defArgs s_l_mixed) (defBody s_l_mixed) (defScope s_l_mixed) [] [] f_l_mixed fd_l_mixed)
    (h_F_l_pool : FunD K "_law_pool" "_law_pool" (defArgs s_l_pool) (defBody s_l_pool) (defScope s_l_pool) [] [] f_l_pool fd_l_pool)
    (h_F_l_draw : FunD K "_law_draw" "_law_draw" (defArgs s_l_draw) (defBody s_l_draw) (defScope s_l_draw) [] [] f_l_draw fd_l_draw)
    (h_F_l_wide : FunD K "_law_wide" "_law_wide" (defArgs s_l_wide) (defBody s_l_wide) (defScope s_l_wide) [] [] f_l_wide fd_l_wide)
    (h_F_l_made : FunD K "_law_made" "_law_made" (defArgs s_l_made) (defBody s_l_made) (defScope s_l_made) [] [] f_l_made fd_l_made)
    (h_F_l_power : FunD K "_law_power" "_law_power" (defArgs s_l_power) (defBody s_l_power) (defScope s_l_power) [] [] f_l_power fd_l_power)
    (h_F_l_setting : FunD K "_law_setting" "_law_setting" (defArgs s_l_setting) (defBody s_l_setting) (defScope s_l_setting) [] [] f_l_setting fd_l_setting)
    (h_F_l_slot_is : FunD K "_law_slot_is" "_law_slot_is" (defArgs s_l_slot_is) (defBody s_l_slot_is) (defScope s_l_slot_is) [] [] f_l_slot_is fd_l_slot_is)
    (h_F_l_refuses : FunD K "_law_refuses" "_law_refuses" (defArgs s_l_refuses) (defBody s_l_refuses) (defScope s_l_refuses) [] [] f_l_refuses fd_l_refuses)
    (h_F_l_no_number : FunD K "_law_no_number" "_law_no_number" (defArgs s_l_no_number) (defBody s_l_no_number) (defScope s_l_no_number) [] [] f_l_no_number fd_l_no_number)
    (h_F_law : FunD K "law" "law" (defArgs s_law) (defBody s_law) (defScope s_law) [] [] f_law fd_law)
    (h_pg_Scheme_wrap : PySem.W.specialIn K (.ref p_Scheme_wrap) "__get__" = some (some (.builtin "property.__get__")))
    (h_pt_Scheme_wrap : PySem.W.takesIn K (.ref p_Scheme_wrap) = some true)
    (h_pg_Scheme_slot : PySem.W.specialIn K (.ref p_Scheme_slot) "__get__" = some (some (.builtin "property.__get__")))
    (h_pt_Scheme_slot : PySem.W.takesIn K (.ref p_Scheme_slot) = some true)
    (h_pg_Scheme_when : PySem.W.specialIn K (.ref p_Scheme_when) "__get__" = some (some (.builtin "property.__get__")))
    (h_pt_Scheme_when : PySem.W.takesIn K (.ref p_Scheme_when) = some true)
    (h_sf_Log : PySem.W.selfFirst K c_Log = true)
    (h_i_Logu__iaddu_ : PySem.W.isFn K (.ref f_Logu__iaddu_) = true)
    (h_pg_Log_put_count : PySem.W.specialIn K (.ref p_Log_put_count) "__get__" = some (some (.builtin "property.__get__")))
    (h_pt_Log_put_count : PySem.W.takesIn K (.ref p_Log_put_count) = some true)
    (h_pg_Log_held : PySem.W.specialIn K (.ref p_Log_held) "__get__" = some (some (.builtin "property.__get__")))
    (h_pt_Log_held : PySem.W.takesIn K (.ref p_Log_held) = some true)
    (h_i_Logu__getitemu_ : PySem.W.isFn K (.ref f_Logu__getitemu_) = true)
    (h_fi_Logu__getitemu_ : PySem.W.fnIn K f_Logu__getitemu_ = true)
    (h_nf_Form_Form : PySem.W.notFirst K c_Form (.ref c_Form) = true)
    (h_nf_int_Form : PySem.W.notFirst K c_Form (.type "int") = true)
    (h_xm_NoSize_NoSize : PySem.W.exmOne K (.ref c_NoSize) (.ref c_NoSize) = some true)
    (h_xm_NoRing_NoSize : PySem.W.exmOne K (.ref c_NoRing) (.ref c_NoSize) = some false)
    (h_xm_NoRing_NoRing : PySem.W.exmOne K (.ref c_NoRing) (.ref c_NoRing) = some true)
    (h_xm_NotDecided_NoSize : PySem.W.exmOne K (.ref c_NotDecided) (.ref c_NoSize) = some false)
    (h_xm_NotDecided_NoRing : PySem.W.exmOne K (.ref c_NotDecided) (.ref c_NoRing) = some false)
    (h_xm_NotDecided_NotDecided : PySem.W.exmOne K (.ref c_NotDecided) (.ref c_NotDecided) = some true)
    (h_xm_NoLag_NoSize : PySem.W.exmOne K (.ref c_NoLag) (.ref c_NoSize) = some false)
    (h_xm_NoLag_NoRing : PySem.W.exmOne K (.ref c_NoLag) (.ref c_NoRing) = some false)
    (h_xm_NoLag_NotDecided : PySem.W.exmOne K (.ref c_NoLag) (.ref c_NotDecided) = some false)
    (h_xm_NoLag_NoLag : PySem.W.exmOne K (.ref c_NoLag) (.ref c_NoLag) = some true)
    (h_xm_Outside_Outside : PySem.W.exmOne K (.ref c_Outside) (.ref c_Outside) = some true)
    : ∃ fd : FuncData, (∀ (s : Shared) (v : Value), BindsTo s fd ⟨[v], []⟩ [("_law_script", v)]) ∧ ∀ base : Heap, K.In base → base.Ns mainGlobals mg → FnOk l.prog w K mg base CX0 9 fa fd ["_law_script"] (sp_law K) := by
  have e := hfa.symm.trans (PySem.W.mg_of X G h_m_law)
  cases e
  have T : Txt w K mg ⟨f_has_outside, fd_has_outside, f_is_whole, fd_is_whole, f_is_whole_from, fd_is_whole_from, f_is_word_of, fd_is_word_of, f_is_size, fd_is_size, f_check_size, fd_check_size, f_Formu__initu_, fd_Formu__initu_, f_form_at, fd_form_at, f_Scheme_wrap, fd_Scheme_wrap, f_wrap_at, fd_wrap_at, f_modulus_of, fd_modulus_of, f_Scheme_slot, fd_Scheme_slot, f_Scheme_when, fd_Scheme_when, f_log_modulus, fd_log_modulus, f_Logu__initu_, fd_Logu__initu_, f_check_lag, fd_check_lag, f_Logu__iaddu_, fd_Logu__iaddu_, f_Log_put_count, fd_Log_put_count, f_Log_held, fd_Log_held, f_Logu__getitemu_, fd_Logu__getitemu_, f_is_small_form, fd_is_small_form, f_is_full, fd_is_full, f_is_wrap, fd_is_wrap, f_is_part, fd_is_part, f_first_wrong, fd_first_wrong, f_Schemeu__initu_, fd_Schemeu__initu_, f_l_mixed, fd_l_mixed, f_l_pool, fd_l_pool, f_l_draw, fd_l_draw, f_l_wide, fd_l_wide, f_l_made, fd_l_made, f_l_power, fd_l_power, f_l_setting, fd_l_setting, f_l_slot_is, fd_l_slot_is, f_l_refuses, fd_l_refuses, f_l_no_number, fd_l_no_number, fa, fd_law, c_Form, c_Scheme, c_RingError, c_Log, c_NoSize, c_NoRing, c_NotDecided, c_NoLag, c_Outside, p_Scheme_wrap, p_Scheme_slot, p_Scheme_when, p_Log_put_count, p_Log_held, t_GREATEST_SIZE, t_PART_NAMES, t_PART_WORDS, t_PART_WORDS_slot, t_PART_WORDS_empty, t_PART_WORDS_when, t_MEASURES, t_SIGNS, t_PLAIN_FULLS, t_GREATEST_SLOPE, t_GREATEST_BASE, t_GREATEST_WIDTH, t_GREATEST_LAG⟩ := {
    n_abs := PySem.W.mg_none_of X G h_n_abs,
    n_bool := PySem.W.mg_none_of X G h_n_bool,
    n_int := PySem.W.mg_none_of X G h_n_int,
    n_isinstance := PySem.W.mg_none_of X G h_n_isinstance,
    n_len := PySem.W.mg_none_of X G h_n_len,
    n_max := PySem.W.mg_none_of X G h_n_max,
    n_min := PySem.W.mg_none_of X G h_n_min,
    n_range := PySem.W.mg_none_of X G h_n_range,
    n_str := PySem.W.mg_none_of X G h_n_str,
    n_tuple := PySem.W.mg_none_of X G h_n_tuple,
    m_GREATEST_SIZE := PySem.W.mg_of X G h_m_GREATEST_SIZE,
    m_PART_NAMES := PySem.W.mg_of X G h_m_PART_NAMES,
    q_PART_NAMES := Hd.tupB_ok h_tq_PART_NAMES,
    m_PART_WORDS := PySem.W.mg_of X G h_m_PART_WORDS,
    q_PART_WORDS_slot := Hd.tupB_ok h_tq_PART_WORDS_slot,
    d_PART_WORDS_slot := ⟨_, _, _, h_lD_PART_WORDS, h_zk_PART_WORDS, h_ns_PART_WORDS_slot, rfl⟩,
    q_PART_WORDS_empty := Hd.tupB_ok h_tq_PART_WORDS_empty,
    d_PART_WORDS_empty := ⟨_, _, _, h_lD_PART_WORDS, h_zk_PART_WORDS, h_ns_PART_WORDS_empty, rfl⟩,
    q_PART_WORDS_when := Hd.tupB_ok h_tq_PART_WORDS_when,
    d_PART_WORDS_when := ⟨_, _, _, h_lD_PART_WORDS, h_zk_PART_WORDS, h_ns_PART_WORDS_when, rfl⟩,
    m_MEASURES := PySem.W.mg_of X G h_m_MEASURES,
    q_MEASURES := Hd.tupB_ok h_tq_MEASURES,
    m_SIGNS := PySem.W.mg_of X G h_m_SIGNS,
    q_SIGNS := Hd.tupB_ok h_tq_SIGNS,
    m_PLAIN_FULLS := PySem.W.mg_of X G h_m_PLAIN_FULLS,
    q_PLAIN_FULLS := Hd.tupB_ok h_tq_PLAIN_FULLS,
    m_GREATEST_SLOPE := PySem.W.mg_of X G h_m_GREATEST_SLOPE,
    m_GREATEST_BASE := PySem.W.mg_of X G h_m_GREATEST_BASE,
    m_GREATEST_WIDTH := PySem.W.mg_of X G h_m_GREATEST_WIDTH,
    m_GREATEST_LAG := PySem.W.mg_of X G h_m_GREATEST_LAG,
    m_NoSize := PySem.W.mg_of X G h_m_NoSize,
    x_NoSize := h_x_NoSize,
    kp_NoSize := h_kp_NoSize,
    sb_NoSize := h_sb_NoSize,
    tc_NoSize := h_tc_NoSize,
    m_NoRing := PySem.W.mg_of X G h_m_NoRing,
    x_NoRing := h_x_NoRing,
    kp_NoRing := h_kp_NoRing,
    sb_NoRing := h_sb_NoRing,
    tc_NoRing := h_tc_NoRing,
    m_NotDecided := PySem.W.mg_of X G h_m_NotDecided,
    x_NotDecided := h_x_NotDecided,
    kp_NotDecided := h_kp_NotDecided,
    sb_NotDecided := h_sb_NotDecided,
    tc_NotDecided := h_tc_NotDecided,
    m_NoLag := PySem.W.mg_of X G h_m_NoLag,
    x_NoLag := h_x_NoLag,
    kp_NoLag := h_kp_NoLag,
    sb_NoLag := h_sb_NoLag,
    tc_NoLag := h_tc_NoLag,
    m_Outside := PySem.W.mg_of X G h_m_Outside,
    x_Outside := h_x_Outside,
    kp_Outside := h_kp_Outside,
    sb_Outside := h_sb_Outside,
    tc_Outside := h_tc_Outside,
    m_Form := PySem.W.mg_of X G h_m_Form,
    k_Form := ⟨h_pg_Form, h_hd_Form, h_po_Form, h_sa_Form⟩,
    n_Form_slope := h_n_Form_slope,
    n_Form_base := h_n_Form_base,
    K_Form := ⟨h_mk_Form, h_in_Form, h_ii_Form, h_kp_Form⟩,
    i_Form := ⟨h_ha_Form, h_hn_Form, h_htk_Form, h_mo_Form⟩,
    kt_Form_Form := h_kt_Form_Form,
    kt_int_Form := h_kt_int_Form,
    m_Scheme := PySem.W.mg_of X G h_m_Scheme,
    k_Scheme := ⟨h_pg_Scheme, h_hd_Scheme, h_po_Scheme, h_sa_Scheme⟩,
    n_Scheme_parts := h_n_Scheme_parts,
    K_Scheme := ⟨h_mk_Scheme, h_in_Scheme, h_ii_Scheme, h_kp_Scheme⟩,
    m_RingError := PySem.W.mg_of X G h_m_RingError,
    m_Log := PySem.W.mg_of X G h_m_Log,
    k_Log := ⟨h_pg_Log, h_hd_Log, h_po_Log, h_sa_Log⟩,
    n_Log_modulus := h_n_Log_modulus,
    n_Log_size := h_n_Log_size,
    n_Log_put_count := h_n_Log_put_count,
    K_Log := ⟨h_mk_Log, h_in_Log, h_ii_Log, h_kp_Log⟩,
    m_has_outside := PySem.W.mg_of X G h_m_has_outside,
    F_has_outside := Hd.plain h_F_has_outside,
    b_has_outside := (Hd.plain h_F_has_outside).binds fun _ _ _ _ _ _ us hl => match us, hl with | [_, _, _], _ => rfl,
    m_is_whole := PySem.W.mg_of X G h_m_is_whole,
    F_is_whole := Hd.plain h_F_is_whole,
    b_is_whole := (Hd.plain h_F_is_whole).binds fun _ _ _ _ _ _ us hl => match us, hl with | [_], _ => rfl,
    m_is_whole_from := PySem.W.mg_of X G h_m_is_whole_from,
    F_is_whole_from := Hd.plain h_F_is_whole_from,
    b_is_whole_from := (Hd.plain h_F_is_whole_from).binds fun _ _ _ _ _ _ us hl => match us, hl with | [_, _, _], _ => rfl,
    m_is_word_of := PySem.W.mg_of X G h_m_is_word_of,
    F_is_word_of := Hd.plain h_F_is_word_of,
    b_is_word_of := (Hd.plain h_F_is_word_of).binds fun _ _ _ _ _ _ us hl => match us, hl with | [_, _], _ => rfl,
    m_is_size := PySem.W.mg_of X G h_m_is_size,
    F_is_size := Hd.plain h_F_is_size,
    b_is_size := (Hd.plain h_F_is_size).binds fun _ _ _ _ _ _ us hl => match us, hl with | [_], _ => rfl,
    m_check_size := PySem.W.mg_of X G h_m_check_size,
    F_check_size := Hd.plain h_F_check_size,
    b_check_size := (Hd.plain h_F_check_size).binds fun _ _ _ _ _ _ us hl => match us, hl with | [_], _ => rfl,
    F_Formu__initu_ := Hd.plain h_F_Formu__initu_,
    b_Formu__initu_ := (Hd.plain h_F_Formu__initu_).binds fun _ _ _ _ _ _ us hl => match us, hl with | [_, _, _], _ => rfl,
    m_form_at := PySem.W.mg_of X G h_m_form_at,
    F_form_at := Hd.plain h_F_form_at,
    b_form_at := (Hd.plain h_F_form_at).binds fun _ _ _ _ _ _ us hl => match us, hl with | [_, _], _ => rfl,
    F_Scheme_wrap := Hd.plain h_F_Scheme_wrap,
    b_Scheme_wrap := (Hd.plain h_F_Scheme_wrap).binds fun _ _ _ _ _ _ us hl => match us, hl with | [_], _ => rfl,
    m_wrap_at := PySem.W.mg_of X G h_m_wrap_at,
    F_wrap_at := Hd.plain h_F_wrap_at,
    b_wrap_at := (Hd.plain h_F_wrap_at).binds fun _ _ _ _ _ _ us hl => match us, hl with | [_, _], _ => rfl,
    m_modulus_of := PySem.W.mg_of X G h_m_modulus_of,
    F_modulus_of := Hd.plain h_F_modulus_of,
    b_modulus_of := (Hd.plain h_F_modulus_of).binds fun _ _ _ _ _ _ us hl => match us, hl with | [_, _], _ => rfl,
    F_Scheme_slot := Hd.plain h_F_Scheme_slot,
    b_Scheme_slot := (Hd.plain h_F_Scheme_slot).binds fun _ _ _ _ _ _ us hl => match us, hl with | [_], _ => rfl,
    F_Scheme_when := Hd.plain h_F_Scheme_when,
    b_Scheme_when := (Hd.plain h_F_Scheme_when).binds fun _ _ _ _ _ _ us hl => match us, hl with | [_], _ => rfl,
    m_log_modulus := PySem.W.mg_of X G h_m_log_modulus,
    F_log_modulus := Hd.plain h_F_log_modulus,
    b_log_modulus := (Hd.plain h_F_log_modulus).binds fun _ _ _ _ _ _ us hl => match us, hl with | [_, _], _ => rfl,
    F_Logu__initu_ := Hd.plain h_F_Logu__initu_,
    b_Logu__initu_ := (Hd.plain h_F_Logu__initu_).binds fun _ _ _ _ _ _ us hl => match us, hl with | [_, _, _], _ => rfl,
    m_check_lag := PySem.W.mg_of X G h_m_check_lag,
    F_check_lag := Hd.plain h_F_check_lag,
    b_check_lag := (Hd.plain h_F_check_lag).binds fun _ _ _ _ _ _ us hl => match us, hl with | [_, _], _ => rfl,
    F_Logu__iaddu_ := Hd.plain h_F_Logu__iaddu_,
    b_Logu__iaddu_ := (Hd.plain h_F_Logu__iaddu_).binds fun _ _ _ _ _ _ us hl => match us, hl with | [_, _], _ => rfl,
    F_Log_put_count := Hd.plain h_F_Log_put_count,
    b_Log_put_count := (Hd.plain h_F_Log_put_count).binds fun _ _ _ _ _ _ us hl => match us, hl with | [_], _ => rfl,
    F_Log_held := Hd.plain h_F_Log_held,
    b_Log_held := (Hd.plain h_F_Log_held).binds fun _ _ _ _ _ _ us hl => match us, hl with | [_], _ => rfl,
    F_Logu__getitemu_ := Hd.plain h_F_Logu__getitemu_,
    b_Logu__getitemu_ := (Hd.plain h_F_Logu__getitemu_).binds fun _ _ _ _ _ _ us hl => match us, hl with | [_, _], _ => rfl,
    m_is_small_form := PySem.W.mg_of X G h_m_is_small_form,
    F_is_small_form := Hd.plain h_F_is_small_form,
    b_is_small_form := (Hd.plain h_F_is_small_form).binds fun _ _ _ _ _ _ us hl => match us, hl with | [_], _ => rfl,
    m_is_full := PySem.W.mg_of X G h_m_is_full,
    F_is_full := Hd.plain h_F_is_full,
    b_is_full := (Hd.plain h_F_is_full).binds fun _ _ _ _ _ _ us hl => match us, hl with | [_], _ => rfl,
    m_is_wrap := PySem.W.mg_of X G h_m_is_wrap,
    F_is_wrap := Hd.plain h_F_is_wrap,
    b_is_wrap := (Hd.plain h_F_is_wrap).binds fun _ _ _ _ _ _ us hl => match us, hl with | [_], _ => rfl,
    m_is_part := PySem.W.mg_of X G h_m_is_part,
    F_is_part := Hd.plain h_F_is_part,
    b_is_part := (Hd.plain h_F_is_part).binds fun _ _ _ _ _ _ us hl => match us, hl with | [_, _], _ => rfl,
    m_first_wrong := PySem.W.mg_of X G h_m_first_wrong,
    F_first_wrong := Hd.plain h_F_first_wrong,
    b_first_wrong := (Hd.plain h_F_first_wrong).binds fun _ _ _ _ _ _ us hl => match us, hl with | [_], _ => rfl,
    F_Schemeu__initu_ := h_F_Schemeu__initu_,
    kb_Schemeu__initu_ := FunD.kbinds0 (kws := [("when", .str "refuse")]) (ps := ["self", "wrap", "slot", "empty", "full", "when"]) (show FunD K _ _ _ _ _ _ _ _ _ from h_F_Schemeu__initu_) 1 ["wrap", "slot", "empty", "full", "when"] [] (fun us _ ws => us ++ ws) (by simp) (by simp) (fun r1 _ r3 => r1.append r3) (fun D doc pm an cdv ct us mv ws h1 h2 h3 => match us, mv, ws, h1, h2, h3 with | [_], [], [_, _, _, _, _], _, _, _ => rfl),
    m_l_mixed := PySem.W.mg_of X G h_m_l_mixed,
    F_l_mixed := Hd.plain h_F_l_mixed,
    b_l_mixed := (Hd.plain h_F_l_mixed).binds fun _ _ _ _ _ _ us hl => match us, hl with | [_, _, _], _ => rfl,
    m_l_pool := PySem.W.mg_of X G h_m_l_pool,
    F_l_pool := Hd.plain h_F_l_pool,
    b_l_pool := (Hd.plain h_F_l_pool).binds fun _ _ _ _ _ _ us hl => match us, hl with | [_], _ => rfl,
    m_l_draw := PySem.W.mg_of X G h_m_l_draw,
    F_l_draw := Hd.plain h_F_l_draw,
    b_l_draw := (Hd.plain h_F_l_draw).binds fun _ _ _ _ _ _ us hl => match us, hl with | [_, _], _ => rfl,
    m_l_wide := PySem.W.mg_of X G h_m_l_wide,
    F_l_wide := Hd.plain h_F_l_wide,
    b_l_wide := (Hd.plain h_F_l_wide).binds fun _ _ _ _ _ _ us hl => match us, hl with | [_, _], _ => rfl,
    m_l_made := PySem.W.mg_of X G h_m_l_made,
    F_l_made := Hd.plain h_F_l_made,
    b_l_made := (Hd.plain h_F_l_made).binds fun _ _ _ _ _ _ us hl => match us, hl with | [_, _], _ => rfl,
    m_l_power := PySem.W.mg_of X G h_m_l_power,
    F_l_power := Hd.plain h_F_l_power,
    b_l_power := (Hd.plain h_F_l_power).binds fun _ _ _ _ _ _ us hl => match us, hl with | [_], _ => rfl,
    m_l_setting := PySem.W.mg_of X G h_m_l_setting,
    F_l_setting := Hd.plain h_F_l_setting,
    b_l_setting := (Hd.plain h_F_l_setting).binds fun _ _ _ _ _ _ us hl => match us, hl with | [_], _ => rfl,
    m_l_slot_is := PySem.W.mg_of X G h_m_l_slot_is,
    F_l_slot_is := Hd.plain h_F_l_slot_is,
    b_l_slot_is := (Hd.plain h_F_l_slot_is).binds fun _ _ _ _ _ _ us hl => match us, hl with | [_, _, _, _], _ => rfl,
    m_l_refuses := PySem.W.mg_of X G h_m_l_refuses,
    F_l_refuses := Hd.plain h_F_l_refuses,
    b_l_refuses := (Hd.plain h_F_l_refuses).binds fun _ _ _ _ _ _ us hl => match us, hl with | [_, _], _ => rfl,
    m_l_no_number := PySem.W.mg_of X G h_m_l_no_number,
    F_l_no_number := Hd.plain h_F_l_no_number,
    b_l_no_number := (Hd.plain h_F_l_no_number).binds fun _ _ _ _ _ _ us hl => match us, hl with | [_, _], _ => rfl,
    m_law := PySem.W.mg_of X G h_m_law,
    F_law := Hd.plain h_F_law,
    b_law := (Hd.plain h_F_law).binds fun _ _ _ _ _ _ us hl => match us, hl with | [_], _ => rfl,
    R_Scheme_wrap := ⟨h_a1_Scheme_wrap, h_pg_Scheme_wrap, h_pt_Scheme_wrap, ⟨_, h_a2_Scheme_wrap⟩⟩,
    R_Scheme_slot := ⟨h_a1_Scheme_slot, h_pg_Scheme_slot, h_pt_Scheme_slot, ⟨_, h_a2_Scheme_slot⟩⟩,
    R_Scheme_when := ⟨h_a1_Scheme_when, h_pg_Scheme_when, h_pt_Scheme_when, ⟨_, h_a2_Scheme_when⟩⟩,
    O_Logu__iaddu__I := ⟨h_sf_Log, h_bx_Logu__iaddu_, h_i_Logu__iaddu_⟩,
    R_Log_put_count := ⟨h_a1_Log_put_count, h_pg_Log_put_count, h_pt_Log_put_count, ⟨_, h_a2_Log_put_count⟩⟩,
    R_Log_held := ⟨h_a1_Log_held, h_pg_Log_held, h_pt_Log_held, ⟨_, h_a2_Log_held⟩⟩,
    O_Logu__getitemu__1 := ⟨h_a_Logu__getitemu_, h_i_Logu__getitemu_⟩,
    fi_Logu__getitemu_ := h_fi_Logu__getitemu_,
    nf_Form_Form := h_nf_Form_Form,
    nf_int_Form := h_nf_int_Form,
    xm_NoSize_NoSize := h_xm_NoSize_NoSize,
    xm_NoRing_NoSize := h_xm_NoRing_NoSize,
    xm_NoRing_NoRing := h_xm_NoRing_NoRing,
    xm_NotDecided_NoSize := h_xm_NotDecided_NoSize,
    xm_NotDecided_NoRing := h_xm_NotDecided_NoRing,
    xm_NotDecided_NotDecided := h_xm_NotDecided_NotDecided,
    xm_NoLag_NoSize := h_xm_NoLag_NoSize,
    xm_NoLag_NoRing := h_xm_NoLag_NoRing,
    xm_NoLag_NotDecided := h_xm_NoLag_NotDecided,
    xm_NoLag_NoLag := h_xm_NoLag_NoLag,
    xm_Outside_Outside := h_xm_Outside_Outside }
  have bl := FunD.bindsA (ps := ["_law_script"]) h_F_law fun _ _ _ _ _ _ us hl => match us, hl with | [_], _ => rfl
  exact ⟨fd_law, fun s v => bl s [v] rfl, fun base _ _ => ok_law T⟩
theorem facts {P : PySem.W.OpenLaw} {w : World} {K : PySem.W.Frag} {h : Heap} {mg : Str → Option Value} {fa : Addr} (X : K.In h) (G : h.Ns mainGlobals mg) (hfa : mg "law" = some (.ref fa)) (c : Hd.tell fns tbs exs K = Hd.told fns tbs w) :
    ∃ fd : FuncData, (∀ (s : Shared) (v : Value), BindsTo s fd ⟨[v], []⟩ [("_law_script", v)]) ∧ ∀ base : Heap, K.In base → base.Ns mainGlobals mg → FnOk P.prog w K mg base CX0 9 fa fd ["_law_script"] (sp_law K) := by
  have e := Hd.exOf c
  obtain ⟨e0, e⟩ := He.ba e
  obtain ⟨h_n_abs, h_n_bool, h_n_int, h_n_isinstance, h_n_len, h_n_max, h_n_min, h_n_range, h_n_str, h_n_tuple, h_m_GREATEST_SIZE, h_m_PART_NAMES⟩ := (show Px0 K from of_decide_eq_true e0)
  obtain ⟨e1, e⟩ := He.ba e
  obtain ⟨h_m_PART_WORDS, h_m_MEASURES, h_m_SIGNS, h_m_PLAIN_FULLS, h_m_GREATEST_SLOPE, h_m_GREATEST_BASE, h_m_GREATEST_WIDTH, h_m_GREATEST_LAG, h_m_NoSize, h_m_NoRing, h_m_NotDecided, h_m_NoLag⟩ := (show Px1 K from of_decide_eq_true e1)
  obtain ⟨e2, e⟩ := He.ba e
  obtain ⟨h_m_Outside, h_m_Form, h_n_Form_slope, h_n_Form_base, h_m_Scheme, h_n_Scheme_parts, h_m_RingError, h_m_Log, h_n_Log_modulus, h_n_Log_size, h_n_Log_put_count, h_m_has_outside⟩ := (show Px2 K from of_decide_eq_true e2)
  obtain ⟨e3, e⟩ := He.ba e
  obtain ⟨h_m_is_whole, h_m_is_whole_from, h_m_is_word_of, h_m_is_size, h_m_check_size, h_m_form_at, h_m_wrap_at, h_m_modulus_of, h_m_log_modulus, h_m_check_lag, h_m_is_small_form, h_m_is_full⟩ := (show Px3 K from of_decide_eq_true e3)
  obtain ⟨e4, e⟩ := He.ba e
  obtain ⟨h_m_is_wrap, h_m_is_part, h_m_first_wrong, h_m_l_mixed, h_m_l_pool, h_m_l_draw, h_m_l_wide, h_m_l_made, h_m_l_power, h_m_l_setting, h_m_l_slot_is, h_m_l_refuses⟩ := (show Px4 K from of_decide_eq_true e4)
  obtain ⟨e5, e⟩ := He.ba e
  obtain ⟨h_m_l_no_number, h_m_law, h_in_Form, h_in_Scheme, h_in_Log, h_a1_Scheme_wrap, h_a1_Scheme_slot, h_a1_Scheme_when, h_bx_Logu__iaddu_, h_a1_Log_put_count, h_a1_Log_held, h_a_Logu__getitemu_⟩ := (show Px5 K from of_decide_eq_true e5)
  obtain ⟨e6, e⟩ := He.ba e
  obtain ⟨h_ns_PART_WORDS_slot, h_ns_PART_WORDS_empty, h_ns_PART_WORDS_when, h_a2_Scheme_wrap, h_a2_Scheme_slot, h_a2_Scheme_when, h_a2_Log_put_count, h_a2_Log_held, h_tq_PART_NAMES, h_tq_PART_WORDS_slot, h_tq_PART_WORDS_empty, h_tq_PART_WORDS_when⟩ := (show Px6 K from of_decide_eq_true e6)
  obtain ⟨e7, e⟩ := He.ba e
  obtain ⟨h_tq_MEASURES, h_tq_SIGNS, h_tq_PLAIN_FULLS, h_x_NoSize, h_kp_NoSize, h_sb_NoSize, h_tc_NoSize, h_x_NoRing, h_kp_NoRing, h_sb_NoRing, h_tc_NoRing, h_x_NotDecided⟩ := (show Px7 K from of_decide_eq_true e7)
  obtain ⟨e8, e⟩ := He.ba e
  obtain ⟨h_kp_NotDecided, h_sb_NotDecided, h_tc_NotDecided, h_x_NoLag, h_kp_NoLag, h_sb_NoLag, h_tc_NoLag, h_x_Outside, h_kp_Outside, h_sb_Outside, h_tc_Outside, h_pg_Form⟩ := (show Px8 K from of_decide_eq_true e8)
  obtain ⟨e9, e⟩ := He.ba e
  obtain ⟨h_hd_Form, h_po_Form, h_sa_Form, h_mk_Form, h_ii_Form, h_kp_Form, h_ha_Form, h_mo_Form, h_hn_Form, h_htk_Form, h_kt_Form_Form, h_kt_int_Form⟩ := (show Px9 K from of_decide_eq_true e9)
  obtain ⟨e10, e⟩ := He.ba e
  obtain ⟨h_pg_Scheme, h_hd_Scheme, h_po_Scheme, h_sa_Scheme, h_mk_Scheme, h_ii_Scheme, h_kp_Scheme, h_pg_Log, h_hd_Log, h_po_Log, h_sa_Log, h_mk_Log⟩ := (show Px10 K from of_decide_eq_true e10)
  obtain ⟨e11, e⟩ := He.ba e
  obtain ⟨h_ii_Log, h_kp_Log, h_pg_Scheme_wrap, h_pt_Scheme_wrap, h_pg_Scheme_slot, h_pt_Scheme_slot, h_pg_Scheme_when, h_pt_Scheme_when, h_sf_Log, h_i_Logu__iaddu_, h_pg_Log_put_count, h_pt_Log_put_count⟩ := (show Px11 K from of_decide_eq_true e11)
  obtain ⟨e12, e⟩ := He.ba e
  obtain ⟨h_pg_Log_held, h_pt_Log_held, h_i_Logu__getitemu_, h_fi_Logu__getitemu_, h_nf_Form_Form, h_nf_int_Form, h_xm_NoSize_NoSize, h_xm_NoRing_NoSize, h_xm_NoRing_NoRing, h_xm_NotDecided_NoSize, h_xm_NotDecided_NoRing, h_xm_NotDecided_NotDecided⟩ := (show Px12 K from of_decide_eq_true e12)
  obtain ⟨e13, e⟩ := He.ba e
  obtain ⟨h_xm_NoLag_NoSize, h_xm_NoLag_NoRing, h_xm_NoLag_NotDecided, h_xm_NoLag_NoLag, h_xm_Outside_Outside⟩ := (show Px13 K from of_decide_eq_true e13)
  obtain ⟨fd_has_outside, h_F_has_outside⟩ := Hd.fnOf c 0 (d := df0) rfl
  obtain ⟨fd_is_whole, h_F_is_whole⟩ := Hd.fnOf c 1 (d := df1) rfl
  obtain ⟨fd_is_whole_from, h_F_is_whole_from⟩ := Hd.fnOf c 2 (d := df2) rfl
  obtain ⟨fd_is_word_of, h_F_is_word_of⟩ := Hd.fnOf c 3 (d := df3) rfl
  obtain ⟨fd_is_size, h_F_is_size⟩ := Hd.fnOf c 4 (d := df4) rfl
  obtain ⟨fd_check_size, h_F_check_size⟩ := Hd.fnOf c 5 (d := df5) rfl
  obtain ⟨fd_Formu__initu_, h_F_Formu__initu_⟩ := Hd.fnOf c 6 (d := df6) rfl
  obtain ⟨fd_form_at, h_F_form_at⟩ := Hd.fnOf c 7 (d := df7) rfl
  obtain ⟨fd_Scheme_wrap, h_F_Scheme_wrap⟩ := Hd.fnOf c 8 (d := df8) rfl
  obtain ⟨fd_wrap_at, h_F_wrap_at⟩ := Hd.fnOf c 9 (d := df9) rfl
  obtain ⟨fd_modulus_of, h_F_modulus_of⟩ := Hd.fnOf c 10 (d := df10) rfl
  obtain ⟨fd_Scheme_slot, h_F_Scheme_slot⟩ := Hd.fnOf c 11 (d := df11) rfl
  obtain ⟨fd_Scheme_when, h_F_Scheme_when⟩ := Hd.fnOf c 12 (d := df12) rfl
  obtain ⟨fd_log_modulus, h_F_log_modulus⟩ := Hd.fnOf c 13 (d := df13) rfl
  obtain ⟨fd_Logu__initu_, h_F_Logu__initu_⟩ := Hd.fnOf c 14 (d := df14) rfl
  obtain ⟨fd_check_lag, h_F_check_lag⟩ := Hd.fnOf c 15 (d := df15) rfl
  obtain ⟨fd_Logu__iaddu_, h_F_Logu__iaddu_⟩ := Hd.fnOf c 16 (d := df16) rfl
  obtain ⟨fd_Log_put_count, h_F_Log_put_count⟩ := Hd.fnOf c 17 (d := df17) rfl
  obtain ⟨fd_Log_held, h_F_Log_held⟩ := Hd.fnOf c 18 (d := df18) rfl
  obtain ⟨fd_Logu__getitemu_, h_F_Logu__getitemu_⟩ := Hd.fnOf c 19 (d := df19) rfl
  obtain ⟨fd_is_small_form, h_F_is_small_form⟩ := Hd.fnOf c 20 (d := df20) rfl
  obtain ⟨fd_is_full, h_F_is_full⟩ := Hd.fnOf c 21 (d := df21) rfl
  obtain ⟨fd_is_wrap, h_F_is_wrap⟩ := Hd.fnOf c 22 (d := df22) rfl
  obtain ⟨fd_is_part, h_F_is_part⟩ := Hd.fnOf c 23 (d := df23) rfl
  obtain ⟨fd_first_wrong, h_F_first_wrong⟩ := Hd.fnOf c 24 (d := df24) rfl
  obtain ⟨fd_Schemeu__initu_, h_F_Schemeu__initu_⟩ := Hd.fnOf c 25 (d := df25) rfl
  obtain ⟨fd_l_mixed, h_F_l_mixed⟩ := Hd.fnOf c 26 (d := df26) rfl
  obtain ⟨fd_l_pool, h_F_l_pool⟩ := Hd.fnOf c 27 (d := df27) rfl
  obtain ⟨fd_l_draw, h_F_l_draw⟩ := Hd.fnOf c 28 (d := df28) rfl
  obtain ⟨fd_l_wide, h_F_l_wide⟩ := Hd.fnOf c 29 (d := df29) rfl
  obtain ⟨fd_l_made, h_F_l_made⟩ := Hd.fnOf c 30 (d := df30) rfl
  obtain ⟨fd_l_power, h_F_l_power⟩ := Hd.fnOf c 31 (d := df31) rfl
  obtain ⟨fd_l_setting, h_F_l_setting⟩ := Hd.fnOf c 32 (d := df32) rfl
  obtain ⟨fd_l_slot_is, h_F_l_slot_is⟩ := Hd.fnOf c 33 (d := df33) rfl
  obtain ⟨fd_l_refuses, h_F_l_refuses⟩ := Hd.fnOf c 34 (d := df34) rfl
  obtain ⟨fd_l_no_number, h_F_l_no_number⟩ := Hd.fnOf c 35 (d := df35) rfl
  obtain ⟨fd_law, h_F_law⟩ := Hd.fnOf c 36 (d := df36) rfl
  obtain ⟨es_PART_WORDS, nd_PART_WORDS, hK_PART_WORDS⟩ := Hd.tabOf c 0 (t := (fun K => He.ga K "PART_WORDS", ["slot", "empty", "when"])) rfl
  have hfl : fa = He.ga K "law" := by
    have e := hfa.symm.trans (PySem.W.mg_of X G h_m_law)
    cases e
    rfl
  subst hfl
  exact all_mk X G hfa h_n_abs h_n_bool h_n_int h_n_isinstance h_n_len h_n_max h_n_min h_n_range h_n_str h_n_tuple h_m_GREATEST_SIZE h_m_PART_NAMES h_m_PART_WORDS h_m_MEASURES h_m_SIGNS h_m_PLAIN_FULLS h_m_GREATEST_SLOPE h_m_GREATEST_BASE h_m_GREATEST_WIDTH h_m_GREATEST_LAG h_m_NoSize h_m_NoRing h_m_NotDecided h_m_NoLag h_m_Outside h_m_Form h_n_Form_slope h_n_Form_base h_m_Scheme h_n_Scheme_parts h_m_RingError h_m_Log h_n_Log_modulus h_n_Log_size h_n_Log_put_count h_m_has_outside h_m_is_whole h_m_is_whole_from h_m_is_word_of h_m_is_size h_m_check_size h_m_form_at h_m_wrap_at h_m_modulus_of h_m_log_modulus h_m_check_lag h_m_is_small_form h_m_is_full h_m_is_wrap h_m_is_part h_m_first_wrong h_m_l_mixed h_m_l_pool h_m_l_draw h_m_l_wide h_m_l_made h_m_l_power h_m_l_setting h_m_l_slot_is h_m_l_refuses h_m_l_no_number h_m_law h_in_Form h_in_Scheme h_in_Log h_a1_Scheme_wrap h_a1_Scheme_slot h_a1_Scheme_when h_bx_Logu__iaddu_ h_a1_Log_put_count h_a1_Log_held h_a_Logu__getitemu_ h_ns_PART_WORDS_slot h_ns_PART_WORDS_empty h_ns_PART_WORDS_when h_a2_Scheme_wrap h_a2_Scheme_slot h_a2_Scheme_when h_a2_Log_put_count h_a2_Log_held hK_PART_WORDS.at_ h_tq_PART_NAMES h_tq_PART_WORDS_slot hK_PART_WORDS.lit h_tq_PART_WORDS_empty h_tq_PART_WORDS_when h_tq_MEASURES h_tq_SIGNS h_tq_PLAIN_FULLS h_x_NoSize h_kp_NoSize h_sb_NoSize h_tc_NoSize h_x_NoRing h_kp_NoRing h_sb_NoRing h_tc_NoRing h_x_NotDecided h_kp_NotDecided h_sb_NotDecided h_tc_NotDecided h_x_NoLag h_kp_NoLag h_sb_NoLag h_tc_NoLag h_x_Outside h_kp_Outside h_sb_Outside h_tc_Outside h_pg_Form h_hd_Form h_po_Form h_sa_Form h_mk_Form h_ii_Form h_kp_Form h_ha_Form h_mo_Form h_hn_Form h_htk_Form h_kt_Form_Form h_kt_int_Form h_pg_Scheme h_hd_Scheme h_po_Scheme h_sa_Scheme h_mk_Scheme h_ii_Scheme h_kp_Scheme h_pg_Log h_hd_Log h_po_Log h_sa_Log h_mk_Log h_ii_Log h_kp_Log h_F_has_outside h_F_is_whole h_F_is_whole_from h_F_is_word_of h_F_is_size h_F_check_size h_F_Formu__initu_ h_F_form_at h_F_Scheme_wrap h_F_wrap_at h_F_modulus_of h_F_Scheme_slot h_F_Scheme_when h_F_log_modulus h_F_Logu__initu_ h_F_check_lag h_F_Logu__iaddu_ h_F_Log_put_count h_F_Log_held h_F_Logu__getitemu_ h_F_is_small_form h_F_is_full h_F_is_wrap h_F_is_part h_F_first_wrong h_F_Schemeu__initu_ h_F_l_mixed h_F_l_pool h_F_l_draw h_F_l_wide h_F_l_made h_F_l_power h_F_l_setting h_F_l_slot_is h_F_l_refuses h_F_l_no_number h_F_law h_pg_Scheme_wrap h_pt_Scheme_wrap h_pg_Scheme_slot h_pt_Scheme_slot h_pg_Scheme_when h_pt_Scheme_when h_sf_Log h_i_Logu__iaddu_ h_pg_Log_put_count h_pt_Log_put_count h_pg_Log_held h_pt_Log_held h_i_Logu__getitemu_ h_fi_Logu__getitemu_ h_nf_Form_Form h_nf_int_Form h_xm_NoSize_NoSize h_xm_NoRing_NoSize h_xm_NoRing_NoRing h_xm_NotDecided_NoSize h_xm_NotDecided_NoRing h_xm_NotDecided_NotDecided h_xm_NoLag_NoSize h_xm_NoLag_NoRing h_xm_NoLag_NotDecided h_xm_NoLag_NoLag h_xm_Outside_Outside
end Pk56
open PySem PySem.W PySem.Calls PyProof.Rows
set_option maxRecDepth 100000 in
set_option maxHeartbeats 0 in
theorem PySem.Challenge.cw_ringindexes_k56_logs_beside_slots_holds : PySem.Challenge.rw_ringindexes_k56_logs_beside_slots.Holds := by
  w_on; o_law
  refine HandSHeadRun.head_any (r := Pk56.R) (q := (PySem.W.view Pk56.R.prog [74])) (H := Pk56.hk) (ob := Pk56.ob) (M := 200000) (loose := Pk56.loose) (d := (HandSHeadRun.topDef Pk56.R.prog 74)) (kwd := []) Pk56.ob_is
    (by kernel_rfl) (fun s => by kernel_rfl) Pk56.run (by kernel_rfl) (by kernel_rfl) (by kernel_rfl) (by rfl) (by first | assumption | decide +kernel) (by decide +kernel) ⟨rfl, rfl, rfl, rfl, rfl, by decide +kernel⟩ ?hw ?hc
  case hw => w_witness2
  case hc =>
    refine L2.walk_ofE (l := PySem.Challenge.rw_ringindexes_k56_logs_beside_slots) (n := 63) (k := 9) (x := "_law_script") (CX := L2.CX0) rfl (by decide) (by kernel_rfl) ⟨rfl, by decide, by decide⟩ ?F (fun _ _ _ _ z => z)
    intro w mg fa h Y G hmg0
    obtain ⟨K, KX, c⟩ := Y
    have hmg : mg ("law" : PySem.Str) = some (.ref fa) := by
      have e : (HandSHeadRun.topDef Pk56.R.prog 74).name = ("law" : PySem.Str) := by kernel_rfl
      rw [← e]
      exact hmg0
    obtain ⟨fd, hb, hF⟩ := Pk56.facts (P := PySem.Challenge.rw_ringindexes_k56_logs_beside_slots) (w := w) KX G hmg c
    exact ⟨K, fd, Pk56.sp_law K, KX, hb, fun H a ns hl _ hS => ⟨a, ns, rfl, hS, hl, fun _ => rfl⟩, hF⟩
