import PyProof.Rows.All
import Wide.All
import OpenK.AllK
import Wide.FinOn
import PyProof.EqAt
import PyProof.EqKinds
import PyProof.TupleCall
import PyProof.InstNe
import KE.RegKIsAll
import HandS.ForMost
import HandS.Wide
import HandS.IsInst
import HandS.OwnEq
import HandS.Star
import HandS.Property
import HandS.Defaults
import HandS.WordsExc
import HandS.ExcOwn
import HandS.TupLe
import HandS.SortKw
import KE.KMinBuiltin
import HandS.TryOnly
import HandS.ExcIs
import HandS.CallLocal
import HandS.Walk
import PySem.Challenge.RW_ringindexes_k05_counters_stepped
set_option Elab.async false
set_option linter.all false
set_option maxRecDepth 100000
set_option maxHeartbeats 40000000
/-! ## steps of readings: each lemma opens one construct -/
namespace Rd
open PySem PySem.Spec PyProof.Rows L2

section
variable {σ : L2.St} {H : Hp} {Q : VK} {D : Ends} {K : PySem.W.Frag}
theorem seq {t u : TS} (h : t { D with nx := u D } σ H) : tSeq t u D σ H := h
theorem next (h : D.nx σ H) : tNext D σ H := h
theorem drop {te : TE} (h : te σ H fun _ H1 => D.nx σ H1) : tDrop te D σ H := h
theorem ret {te : TE} (h : te σ H D.rt) : tRet te D σ H := h
theorem retN (h : D.rt .non H) : tRetN D σ H := h
theorem brk (h : D.bk σ H) : tBreak D σ H := h
theorem cont (h : D.ct σ H) : tCont D σ H := h
theorem ifS {c : TT} {t u : TS} (h : c σ H fun b H1 => if b = true then t D σ H1 else u D σ H1) : tIfS c t u D σ H := h
theorem asg {te : TE} {g : TG} (h : te σ H fun x H1 => g x σ H1 D.nx) : tAsg te g D σ H := h
theorem name {i : Nat} {v : V} {q : L2.St → Hp → Prop} (h : q (σ.set i (some v)) H) : gName i v σ H q := h
theorem par {i j : Nat} {ta : TA} (h : ta σ H fun vs H1 => ∃ v w, vs = [v, w] ∧ D.nx ((σ.set i (some v)).set j (some w)) H1) : tPar i j ta D σ H := h
theorem par2 {i j : Nat} {v w : V} (h : D.nx ((σ.set i (some v)).set j (some w)) H) : ∃ v' w', [v, w] = [v', w'] ∧ D.nx ((σ.set i (some v')).set j (some w')) H := ⟨v, w, rfl, h⟩
theorem var {i : Nat} {v : V} (e : σ[i]? = some (some v)) (h : Q v H) : tVar i σ H Q := ⟨v, e, h⟩
theorem c {v : V} (h : Q v H) : tC v σ H Q := h
theorem op {r : R2} {ta tb : TE} (h : ta σ H fun x H1 => tb σ H1 fun y H2 => r x y H2 Q) : tOp r ta tb σ H Q := h
theorem un {r : V → Hp → VK → Prop} {ta : TE} (h : ta σ H fun x H1 => r x H1 Q) : tUn r ta σ H Q := h
theorem i0 {g : Int → Int → V} {i j : Int} (h : Q (g i j) H) : rI0 g (.int i) (.int j) H Q := ⟨i, j, rfl, rfl, h⟩
theorem iC {C : Int → Int → Prop} {g : Int → Int → V} {i j : Int} (e : C i j) (h : Q (g i j) H) : rI C g (.int i) (.int j) H Q := ⟨i, j, rfl, rfl, e, h⟩
theorem iU {g : Int → V} {i : Int} (h : Q (g i) H) : rU g (.int i) H Q := ⟨i, rfl, h⟩
theorem eqS {x y : V} (e : scal x y = true) (h : Q (.bl (decide (x = y))) H) : rEq x y H Q := ⟨e, h⟩
theorem neS {x y : V} (e : scal x y = true) (h : Q (.bl (!decide (x = y))) H) : rNe x y H Q := ⟨e, h⟩
theorem addS {i j : Str} (e : i.length + j.length ≤ sizeLine) (h : Q (.str (i ++ j)) H) : ∃ a b, V.str i = .str a ∧ V.str j = .str b ∧ a.length + b.length ≤ sizeLine ∧ Q (.str (a ++ b)) H := ⟨i, j, rfl, rfl, e, h⟩
theorem isN {x : V} (h : Q (.bl (decide (x = .non))) H) : V.non = .non ∧ Q (.bl (decide (x = .non))) H := ⟨rfl, h⟩
theorem notN {x : V} (h : Q (.bl (!decide (x = .non))) H) : V.non = .non ∧ Q (.bl (!decide (x = .non))) H := ⟨rfl, h⟩
theorem chain {r r' : R2} {ta tb tc : TE} (h : ta σ H fun x H1 => tb σ H1 fun y H2 => r x y H2 fun z H3 => ∃ k, z = .bl k ∧ (if k = true then tc σ H3 fun w' H4 => r' y w' H4 Q else Q (.bl false) H3)) : tChain r r' ta tb tc σ H Q := h
theorem bl {k : Bool} {A : Bool → Prop} (h : A k) : ∃ c, V.bl k = .bl c ∧ A c := ⟨k, rfl, h⟩
theorem test {t : TE} {q : Bool → Hp → Prop} (h : t σ H fun x H' => ∃ k, x = .bl k ∧ q k H') : tTest t σ H q := h
theorem tb {t : TE} {q : Bool → Hp → Prop} (h : t σ H fun x H' => ∃ k, x = .bl k ∧ q k H') : tB t σ H q := h
theorem and {t u : TT} {q : Bool → Hp → Prop} (h : t σ H fun c H1 => if c = true then u σ H1 q else q false H1) : tAnd t u σ H q := h
theorem or {t u : TT} {q : Bool → Hp → Prop} (h : t σ H fun c H1 => if c = true then q true H1 else u σ H1 q) : tOr t u σ H q := h
theorem not {t : TT} {q : Bool → Hp → Prop} (h : t σ H fun c H1 => q (!c) H1) : tNot t σ H q := h
theorem andV {ta tb : TE} (h : ta σ H fun x H1 => ∃ c, x = .bl c ∧ if c = true then tb σ H1 Q else Q (.bl false) H1) : tAndV ta tb σ H Q := h
theorem orV {ta tb : TE} (h : ta σ H fun x H1 => ∃ c, x = .bl c ∧ if c = true then Q (.bl true) H1 else tb σ H1 Q) : tOrV ta tb σ H Q := h
theorem notV {ta : TE} (h : ta σ H fun x H1 => ∃ c, x = .bl c ∧ Q (.bl (!c)) H1) : tNotV ta σ H Q := h
theorem ifE {t : TT} {ta tb : TE} (h : t σ H fun c H1 => if c = true then ta σ H1 Q else tb σ H1 Q) : tIf t ta tb σ H Q := h
theorem nil {q : List V → Hp → Prop} (h : q [] H) : tNil σ H q := h
theorem cons {ta : TE} {tr : TA} {q : List V → Hp → Prop} (h : ta σ H fun x H1 => tr σ H1 fun xs H2 => q (x :: xs) H2) : tCons ta tr σ H q := h
theorem cB {r : List V → Hp → VK → Prop} {t : TA} (h : t σ H fun vs H1 => r vs H1 Q) : tCB r t σ H Q := h
theorem tup {t : TA} (h : t σ H fun xs H1 => xs.length ≤ sizeLine ∧ ∀ p, H1 p = none → Q (.ref p) (upd H1 p (.tup xs))) : tTup t σ H Q := h
theorem lst {t : TA} (h : t σ H fun xs H1 => xs.length ≤ sizeLine ∧ ∀ p, H1 p = none → Q (.ref p) (upd H1 p (.lst xs))) : tLst t σ H Q := h
theorem laid {xs : List V} {A : Addr → Prop} (e : xs.length ≤ 1000) (h : ∀ p, H p = none → A p) : xs.length ≤ sizeLine ∧ ∀ p, H p = none → A p := ⟨Nat.le_of_lt (small1000 e), h⟩
theorem call {sp : Sp} {dvs : List V} {E : XK} {t : TA} (h : t σ H fun vs H1 => sp (vs ++ dvs) H1 Q E) : tCall sp dvs E t σ H Q := h
theorem meth {C : Addr} {m : Str} {sp : Sp} {dvs : List V} {E : XK} {ta : TE} {t : TA} (h : ta σ H fun x H1 => ∃ a dx fs, x = .ref a ∧ H1 a = some (.ins C dx fs) ∧ fs.lookup m = none ∧ t σ H1 fun vs H2 => sp (x :: (vs ++ dvs)) H2 Q E) : tMeth C m sp dvs E ta t σ H Q := h
theorem meth2 {C a dx : Addr} {fs : List (Str × V)} {m : Str} {A : Prop} (e : H a = some (.ins C dx fs)) (l : fs.lookup m = none) (h : A) : ∃ a' dx fs, V.ref a = .ref a' ∧ H a' = some (.ins C dx fs) ∧ fs.lookup m = none ∧ A := ⟨a, dx, fs, rfl, e, l, h⟩
theorem make {C : Addr} {sp : Sp} {dvs : List V} {E : XK} {t : TA} (h : t σ H fun vs H1 => ∀ x dx, H1 x = none → H1 dx = none → dx ≠ x → sp (.ref x :: (vs ++ dvs)) (upd (upd H1 dx (.own x)) x (.ins C dx [])) (fun v H2 => v = .non ∧ Q (.ref x) H2) E) : tMake C sp dvs E t σ H Q := h
theorem fld {ta : TE} {f : Str} (h : ta σ H fun x H1 => ∃ a C dx fs v, x = .ref a ∧ H1 a = some (.ins C dx fs) ∧ Cls K C ∧ NoAttr K C f ∧ fs.lookup f = some v ∧ Q v H1) : tFld K ta f σ H Q := h
theorem fld2 {f : Str} {a C dx : Addr} {fs : List (Str × V)} {v : V} (e : H a = some (.ins C dx fs)) (k : Cls K C) (n : NoAttr K C f) (l : fs.lookup f = some v) (h : Q v H) :
    ∃ a' C' dx fs v, V.ref a = .ref a' ∧ H a' = some (.ins C' dx fs) ∧ Cls K C' ∧ NoAttr K C' f ∧ fs.lookup f = some v ∧ Q v H := ⟨a, C, dx, fs, v, rfl, e, k, n, l, h⟩
theorem sfld {ta tv : TE} {f : Str} (h : tv σ H fun y H1 => ta σ H1 fun x H2 => ∃ a C dx fs, x = .ref a ∧ H2 a = some (.ins C dx fs) ∧ Cls K C ∧ NoAttr K C f ∧ fs.length < 1000 ∧ D.nx σ (upd H2 a (.ins C dx (putF f y fs)))) : sFld K ta tv f D σ H := h
theorem gnil {q : L2.St → Hp → Prop} (h : q σ H) : gNil [] σ H q := ⟨rfl, h⟩
theorem gcons {t : TG} {u : TGs} {v : V} {r : List V} {q : L2.St → Hp → Prop} (h : t v σ H fun σ' H' => u r σ' H' q) : gCons t u (v :: r) σ H q := ⟨v, r, rfl, h⟩
theorem gtup {n : Nat} {t : TGs} {a : Addr} {xs : List V} {q : L2.St → Hp → Prop} (e : SqT K H a xs) (l : xs.length = n) (h : t xs σ H q) : gTup K n t (.ref a) σ H q := ⟨a, xs, rfl, e, l, h⟩
theorem fr {wi : TI} {g : TG} {tb : TS} (h : wi σ H fun J H1 => ∃ W : Nat → Nat → L2.St → Hp → Prop, (∃ m, W 0 m σ H1) ∧ ∀ i m σ H, W i m σ H →
    (J.stop i H ∧ D.nx σ H) ∨ (J.go i H ∧ ∃ N : L2.St → Hp → Prop, (∀ σ' H', N σ' H' → ∃ m', m' < m ∧ W (i + 1) m' σ' H') ∧ ∀ x H', J.yld i H x H' → g x σ H' fun σ2 H2 => tb { D with nx := N, ct := N, bk := D.nx } σ2 H2)) : tFor wi g tb D σ H := h
theorem rng1 {ta : TA} {R : It → Hp → Prop} (h : ta σ H fun vs H1 => ∃ j : Int, vs = [.int j] ∧ -(2 ^ 62) ≤ j ∧ j < 2 ^ 62 ∧ R (Itr 0 j.toNat) H1) : iRng1 ta σ H R := h
theorem prop {C : Addr} {sp : Sp} {dvs : List V} {E : XK} {ta : TE} (h : ta σ H fun x H1 => ∃ a dx fs, x = .ref a ∧ H1 a = some (.ins C dx fs) ∧ sp (.ref a :: dvs) H1 Q E) : tProp C sp dvs E ta σ H Q := h
theorem aug {i : Nat} {te : TE} {ti : TIp} {x : V} (e : σ[i]? = some (some x)) (h : te σ H fun y H1 => ti x y H1 fun z H2 => D.nx (σ.set i (some z)) H2) : tAug i te ti D σ H := ⟨x, e, h⟩
theorem ipI {f : Int → Int → Int} {i j : Int} (h : Q (.int (f i j)) H) : L2.ipI f (.int i) (.int j) H Q := ⟨i, j, rfl, rfl, h⟩
theorem ixL {a : Addr} {xs : List V} {i : Int} {v : V} (e : SqL K H a xs) (l : atI xs i = some v) (h : Q v H) : rIxL K (.ref a) (.int i) H Q := ⟨a, xs, i, v, rfl, rfl, e, l, h⟩
theorem ixT {a : Addr} {xs : List V} {i : Int} {v : V} (e : SqT K H a xs) (l : atI xs i = some v) (h : Q v H) : rIxT K (.ref a) (.int i) H Q := ⟨a, xs, i, v, rfl, rfl, e, l, h⟩
theorem setL {a : Addr} {xs : List V} {k : Int} {j : Nat} {v : V} {q : Hp → Prop} (e : H a = some (.lst xs)) (l : ixN xs.length k = some j) (h : q (upd H a (.lst (xs.set j v)))) : rSetL (.ref a) (.int k) v H q := ⟨a, xs, k, j, rfl, rfl, e, l, h⟩
theorem sub {to ti : TE} {t : TSet} {v : V} {q : L2.St → Hp → Prop} (h : to σ H fun o H1 => ti σ H1 fun i H2 => t o i v H2 fun H3 => q σ H3) : gSub to ti t v σ H q := h
theorem lenQ {a : Addr} {xs : List V} (e : SqL K H a xs ∨ SqT K H a xs) (h : Q (.int xs.length) H) : ∃ p ys, [V.ref a] = [.ref p] ∧ (SqL K H p ys ∨ SqT K H p ys) ∧ Q (.int ys.length) H := ⟨a, xs, rfl, e, h⟩
theorem absI {i : Int} (h : Q (.int (if i < 0 then -i else i)) H) : ∃ j, [V.int i] = [.int j] ∧ Q (.int (if j < 0 then -j else j)) H := ⟨i, rfl, h⟩
theorem intI {i : Int} (h : Q (.int i) H) : (∃ j, [V.int i] = [.int j] ∧ Q (.int j) H) ∨ ∃ k, [V.int i] = [.bl k] ∧ Q (.int (if k then 1 else 0)) H := .inl ⟨i, rfl, h⟩
theorem ite {c A B : Prop} [Decidable c] (h1 : c → A) (h2 : ¬ c → B) : if c then A else B := by
  by_cases h : c
  · rw [if_pos h]; exact h1 h
  · rw [if_neg h]; exact h2 h
theorem iteT {b : Bool} {A B : Prop} (e : b = true) (h : A) : if b = true then A else B := by rw [if_pos e]; exact h
theorem iteF {b : Bool} {A B : Prop} (e : b = false) (h : B) : if b = true then A else B := by rw [e]; exact h
theorem andB {c d : Bool} {t : TE} (h1 : ∀ Q' : VK, Q' (.bl d) H → t σ H Q') (h : Q (.bl (c && d)) H) : if c = true then t σ H Q else Q (.bl false) H := by
  cases c with
  | true => exact h1 Q h
  | false => exact h
theorem orB {c d : Bool} {t : TE} (h1 : ∀ Q' : VK, Q' (.bl d) H → t σ H Q') (h : Q (.bl (c || d)) H) : if c = true then Q (.bl true) H else t σ H Q := by
  cases c with
  | true => exact h
  | false => exact h1 Q h
end
theorem lput {f : Str} {v : V} {fs : List (Str × V)} {n : Nat} (h : fs.length + 1 < n) : (putF f v fs).length < n := Nat.lt_of_le_of_lt (by have := length_putF f v fs; omega) h
theorem lputs {f : Str} {v : V} {fs : List (Str × V)} {n k : Nat} (h : fs.length + (k + 1) < n) : (putF f v fs).length + k < n := Nat.lt_of_le_of_lt (by have := length_putF f v fs; omega) h
theorem ty_tup {K : PySem.W.Frag} {H : Hp} {a : Addr} {xs : List V} (e : H a = some (.tup xs)) : TyX K H (.ref a) (.type "tuple") := .base (.tup e)
theorem ty_lst {K : PySem.W.Frag} {H : Hp} {a : Addr} {xs : List V} (e : H a = some (.lst xs)) : TyX K H (.ref a) (.type "list") := .base (.lst e)
section
variable {K : PySem.W.Frag}
theorem kit_int_int : PySem.W.kitOne K (.type "int") (.type "int") = some true := kit_ty (by decide +kernel)
theorem kit_bool_int : PySem.W.kitOne K (.type "bool") (.type "int") = some true := kit_ty (by decide +kernel)
theorem kit_str_int : PySem.W.kitOne K (.type "str") (.type "int") = some false := kit_ty (by decide +kernel)
theorem kit_none_int : PySem.W.kitOne K (.type "NoneType") (.type "int") = some false := kit_ty (by decide +kernel)
theorem kit_tuple_int : PySem.W.kitOne K (.type "tuple") (.type "int") = some false := kit_ty (by decide +kernel)
theorem kit_list_int : PySem.W.kitOne K (.type "list") (.type "int") = some false := kit_ty (by decide +kernel)
theorem kit_dict_int : PySem.W.kitOne K (.type "dict") (.type "int") = some false := kit_ty (by decide +kernel)
theorem kit_int_bool : PySem.W.kitOne K (.type "int") (.type "bool") = some false := kit_ty (by decide +kernel)
theorem kit_bool_bool : PySem.W.kitOne K (.type "bool") (.type "bool") = some true := kit_ty (by decide +kernel)
theorem kit_str_bool : PySem.W.kitOne K (.type "str") (.type "bool") = some false := kit_ty (by decide +kernel)
theorem kit_str_str : PySem.W.kitOne K (.type "str") (.type "str") = some true := kit_ty (by decide +kernel)
theorem kit_int_str : PySem.W.kitOne K (.type "int") (.type "str") = some false := kit_ty (by decide +kernel)
end
end Rd


/-! ## the operators of own classes, as rules of the layer -/
namespace Own
open PySem PySem.Spec PyProof.Rows L2
section
variable {X : Cx} {pins : List (Addr × Obj)} {σ : L2.St} {H : Hp} {s : Shared}
/-- a value of the layer is never the sign of a declined operator -/
theorem not_declined {v : V} {u : Value} (r : RelV v u) : u ≠ .notImplemented := by
  intro e
  subst e
  cases v with
  | non => cases (show Value.notImplemented = Value.none from r)
  | bl b => cases (show Value.notImplemented = Value.bool b from r)
  | int i => obtain ⟨t, q⟩ := (show ∃ t, Value.notImplemented = Value.int i t from r); cases q
  | str i => obtain ⟨t, q⟩ := (show ∃ t, Value.notImplemented = Value.str i t from r); cases q
  | byt i => obtain ⟨t, q⟩ := (show ∃ t, Value.notImplemented = Value.bytes i t from r); cases q
  | flt i => obtain ⟨t, q⟩ := (show ∃ t, Value.notImplemented = Value.float i t from r); cases q
  | ref a => cases (show Value.notImplemented = Value.ref a from r)
  | ty n => cases (show Value.notImplemented = Value.type n from r)
theorem back {M : Model} {A : Around} {E : Value → Shared → Prop} {m : Sem Value} {Q : VK} (h : wpAny M A m (EP X pins σ Q) E s) : wpAny M A m (PySem.W.CmpBack (EP X pins σ Q)) E s :=
  wpAny_mono h (fun u s' q => by
    have n : u ≠ .notImplemented := by
      obtain ⟨z, H', I, r, _⟩ := q
      exact not_declined r
    cases u <;> first | exact q | exact absurd rfl n) fun _ _ e => e
/-- an instance as the library's rules ask for it -/
theorem inst {a C dx : Addr} {fs : List (Str × V)} (I : Inv X pins σ H s) (h : H a = some (.ins C dx fs)) : ∃ od, PySem.W.InstAt s.heap a (PySem.W.instObj C dx) C od := by
  obtain ⟨mA, J, _⟩ := ins_get I.hok h
  obtain ⟨od, J, _⟩ := J.look
  exact ⟨_, J⟩
/-- the type of any value, told without a step that matters -/
theorem typed {M : Model} {x : V} {u : Value} {t : Value} (I : Inv X pins σ H s) (r : RelV x u) (ty : TyX X.K H x t) : PySem.W.Looks M s.heap (typeOf u) t := by
  obtain ⟨P, Z, p, _⟩ := kit_of I r ty
  exact Z.ty M s.heap I.kIn p
end

/-- an own method behind an operator -/
structure Sp1 (K : PySem.W.Frag) (C : Addr) (m : Str) (f : Addr) : Prop where
  at_ : PySem.W.findIn K (.ref C) m = some (some (.ref f))
  fn : PySem.W.isFn K (.ref f) = true
/-- a two-place operator of an own class -/
structure Bin (K : PySem.W.Frag) (C f : Addr) (op : Operator) : Prop where
  first : PySem.W.selfFirst K C = true
  at_ : PySem.W.findIn K (.ref C) (PySem.dunder op.info.2) = some (some (.ref f))
  fn : PySem.W.isFn K (.ref f) = true
/-- .. beside a value of the built-in type T -/
structure BinT (K : PySem.W.Frag) (C f : Addr) (op : Operator) (T : String) : Prop where
  b : Bin K C f op
  r : ∃ rc, PySem.W.findIn K (.ref C) (dunderR op.info.2) = some rc ∧ (rc = none ∨ ∃ g : Addr, rc = some (.ref g))
  l1 : ∃ fo, PySem.W.findIn K (.type T) (PySem.dunder op.info.2) = some fo
  l2 : ∃ ro, PySem.W.findIn K (.type T) (dunderR op.info.2) = some ro
  sub : PySem.W.subIn K (.type T) (.ref C) = some false

def rSame (C : Addr) (sp : Sp) (E : XK) : R2 := fun x y H Q => ∃ a b dx dy fs gs, x = .ref a ∧ y = .ref b ∧ H a = some (.ins C dx fs) ∧ H b = some (.ins C dy gs) ∧ sp [.ref a, .ref b] H Q E
def rLeft (C : Addr) (T : String) (sp : Sp) (E : XK) : R2 := fun x y H Q => ∃ a dx fs, x = .ref a ∧ H a = some (.ins C dx fs) ∧ (∀ u, RelV y u → typeOf u = pure (.type T)) ∧ sp [.ref a, y] H Q E
def rCmp (K : PySem.W.Frag) (C : Addr) (sp : Sp) (E : XK) : R2 := fun x y H Q => ∃ a dx fs t, x = .ref a ∧ H a = some (.ins C dx fs) ∧ TyX K H y t ∧ PySem.W.notFirst K C t = true ∧ sp [.ref a, y] H Q E
def rOne (C : Addr) (sp : Sp) (E : XK) : V → Hp → VK → Prop := fun x H Q => ∃ a dx fs, x = .ref a ∧ H a = some (.ins C dx fs) ∧ sp [.ref a] H Q E

section
variable {X : Cx} {CX : CXT} {k : Nat} {f C : Addr} {fd : FuncData} {ps : List Str} {sp : Sp} {E : XK} {op : Operator} {cop : CmpOp} {T : String}
theorem run2 {pins : List (Addr × Obj)} {σ : L2.St} {H : Hp} {s : Shared} {Q : VK} {x y : V} {u v : Value} (F : FnOk X.prog X.w X.K X.mg X.base CX k f fd ps sp) (hr : Room k X.A) (hb : Binds X.K fd ps []) (hx : Passes CX X E)
    (I : Inv X pins σ H s) (rx : RelV x u) (ry : RelV y v) (h : sp [x, y] H Q E) : wpAny (model X.prog X.w) X.A (call (.ref f) [u, v]) (EP X pins σ Q) X.xe s :=
  run_fn (us := [u, v]) (vs := [x, y]) F hr hb .nil hx I (.cons rx (.cons ry .nil)) h
theorem opS (F : FnOk X.prog X.w X.K X.mg X.base CX k f fd ps sp) (hr : Room k X.A) (B : Bin X.K C f op) (hb : Binds X.K fd ps []) (hx : Passes CX X E) : OpR X (binaryOp op) (rSame C sp E) := by
  rintro pins s σ H x y u v Q I rx ry ⟨a, b, dx, dy, fs, gs, rfl, rfl, ha, hb', q⟩
  cases rx
  cases ry
  obtain ⟨od, J⟩ := inst I ha
  obtain ⟨od', J'⟩ := inst I hb'
  obtain ⟨m, hF⟩ := I.fr
  exact PySem.W.binop_K hF I.ok.mod.kin J J'.type B.first B.at_ B.fn (back (run2 (x := .ref a) (y := .ref b) F hr hb hx I rfl rfl q))
theorem opT (F : FnOk X.prog X.w X.K X.mg X.base CX k f fd ps sp) (hr : Room k X.A) (B : BinT X.K C f op T) (hb : Binds X.K fd ps []) (hx : Passes CX X E) : OpR X (binaryOp op) (rLeft C T sp E) := by
  rintro pins s σ H x y u v Q I rx ry ⟨a, dx, fs, rfl, ha, ty, q⟩
  cases rx
  obtain ⟨od, J⟩ := inst I ha
  obtain ⟨m, hF⟩ := I.fr
  obtain ⟨⟨b1, b2, b3⟩, ⟨rc, r1, r2⟩, ⟨fo, l1⟩, ⟨ro, l2⟩, sb⟩ := B
  exact PySem.W.ksp_binT hF I.ok.mod.kin J (ty _ ry) b1 b2 b3 r1 r2 l1 l2 sb (back (run2 (x := .ref a) F hr hb hx I rfl ry q))
theorem iopT (F : FnOk X.prog X.w X.K X.mg X.base CX k f fd ps sp) (hr : Room k X.A) (h1 : PySem.W.selfFirst X.K C = true) (h2 : Sp1 X.K C (dunderI op.info.2) f) (hb : Binds X.K fd ps []) (hx : Passes CX X E) :
    OpR X (inplaceOp op) (fun x y H Q => ∃ a dx fs, x = .ref a ∧ H a = some (.ins C dx fs) ∧ sp [.ref a, y] H Q E) := by
  rintro pins s σ H x y u v Q I rx ry ⟨a, dx, fs, rfl, ha, q⟩
  cases rx
  obtain ⟨od, J⟩ := inst I ha
  obtain ⟨m, hF⟩ := I.fr
  exact PySem.W.ksp_inplace hF I.ok.mod.kin J h1 h2.at_ h2.fn (back (run2 (x := .ref a) F hr hb hx I rfl ry q))
theorem neg (F : FnOk X.prog X.w X.K X.mg X.base CX k f fd ps sp) (hr : Room k X.A) (B : Sp1 X.K C "__neg__" f) (hb : Binds X.K fd ps []) (hx : Passes CX X E) : UnR X (unaryOp .USub) (rOne C sp E) := by
  rintro pins s σ H x u Q I rx ⟨a, dx, fs, rfl, ha, q⟩
  cases rx
  obtain ⟨od, J⟩ := inst I ha
  obtain ⟨m, hF⟩ := I.fr
  exact PySem.W.ksp_neg hF I.ok.mod.kin J B.at_ B.fn (run_fn (us := [.ref a]) (vs := [.ref a]) F hr hb .nil hx I (.cons rfl .nil) q)
theorem cmp (F : FnOk X.prog X.w X.K X.mg X.base CX k f fd ps sp) (hr : Room k X.A) (B : Sp1 X.K C (cmpInfo cop).2.1 f) (hb : Binds X.K fd ps []) (hx : Passes CX X E)
    (ho : ∀ a b, compareOp cop a b = richCompare cop a b := by intro _ _; rfl) : OpR X (compareOp cop) (rCmp X.K C sp E) := by
  rintro pins s σ H x y u v Q I rx ry ⟨a, dx, fs, t, rfl, ha, ty, nf, q⟩
  cases rx
  obtain ⟨od, J⟩ := inst I ha
  obtain ⟨m, hF⟩ := I.fr
  rw [ho]
  exact PySem.W.cmp_K hr.units0 hF I.ok.mod.kin J (typed I ry ty) nf B.at_ B.fn (back (run2 (x := .ref a) F hr hb hx I rfl ry q))
/-- o[i] by the own __getitem__ -/
theorem item (F : FnOk X.prog X.w X.K X.mg X.base CX k f fd ps sp) (hr : Room k X.A) (B : Sp1 X.K C "__getitem__" f) (hq : PySem.W.noSeq X.K C = true) (hb : Binds X.K fd ps []) (hx : Passes CX X E) :
    OpR X getItem (fun x y H Q => ∃ a dx fs, x = .ref a ∧ H a = some (.ins C dx fs) ∧ sp [.ref a, y] H Q E) := by
  rintro pins s σ H x y u v Q I rx ry ⟨a, dx, fs, rfl, ha, q⟩
  cases rx
  obtain ⟨od, J⟩ := inst I ha
  obtain ⟨m, hF⟩ := I.fr
  exact PySem.W.getItem_K hF I.ok.mod.kin J hq B.at_ B.fn (run2 (x := .ref a) F hr hb hx I rfl ry q)
/-- x in o by the own __contains__, which gives a bool -/
theorem isin (F : FnOk X.prog X.w X.K X.mg X.base CX k f fd ps sp) (hr : Room k X.A) (B : Sp1 X.K C "__contains__" f) (hb : Binds X.K fd ps []) (hx : Passes CX X E) :
    OpR X (compareOp .In) (fun x y H Q => ∃ a dx fs, y = .ref a ∧ H a = some (.ins C dx fs) ∧ sp [.ref a, x] H (fun v H' => ∃ b, v = .bl b ∧ Q (.bl b) H') E) := by
  rintro pins s σ H x y u v Q I rx ry ⟨a, dx, fs, rfl, ha, q⟩
  cases ry
  obtain ⟨od, J⟩ := inst I ha
  obtain ⟨m, hF⟩ := I.fr
  refine PySem.W.in_K hF I.ok.mod.kin J B.at_ B.fn (wpAny_mono (run2 (x := .ref a) F hr hb hx I rfl rx q) (fun r s' hq => ?_) fun _ _ e => e)
  obtain ⟨z, H', I', rz, b, rfl, q'⟩ := hq
  cases rz
  exact wpAny_truthy_bool ⟨.bl b, H', I', rfl, q'⟩
/-- truth by the own __bool__ -/
theorem truth (F : FnOk X.prog X.w X.K X.mg X.base CX k f fd ps sp) (hr : Room k X.A) (B : Sp1 X.K C "__bool__" f) (hb : Binds X.K fd ps []) (hx : Passes CX X E) :
    TruR X (fun x H Q => ∃ a dx fs, x = .ref a ∧ H a = some (.ins C dx fs) ∧ sp [.ref a] H (fun v H' => ∃ b, v = .bl b ∧ Q b H') E) := by
  rintro pins s σ H x u Q I rx ⟨a, dx, fs, rfl, ha, q⟩
  cases rx
  obtain ⟨od, J⟩ := inst I ha
  obtain ⟨m, hF⟩ := I.fr
  refine PySem.W.truthy_K hF I.ok.mod.kin J B.at_ B.fn (wpAny_mono (run_fn (us := [.ref a]) (vs := [.ref a]) F hr hb .nil hx I (.cons rfl .nil) q) (fun r s' hq => ?_) fun _ _ e => e)
  obtain ⟨z, H', I', rz, b, rfl, q'⟩ := hq
  cases rz
  exact ⟨H', I', q'⟩
end
end Own
/-! ## int op own: the reflected operator; != by the inherited rule over the own ==; len; a call of an instance -/
namespace Own
open PySem PySem.Spec PyProof.Rows
section
variable {prog : Program} {w : World} {A : Around} {E : Value → Shared → Prop} {s : Shared} {K : PySem.W.Frag} {x C dx f : Addr} {od : Option Obj}
theorem decl_add {i : Int} {t : Tok} {Q : Shared → Prop} (h : s.heap.get? x = some (PySem.W.instObj C dx)) (hq : Q s) :
    wpAny (model prog w) A (Builtin.«int.__add__» ⟨[.int i t, .ref x], []⟩) (fun fin s' => ∃ v, fin = .done (.ret v) ∧ v = .notImplemented ∧ Q s') E s := by
  obtain ⟨hp, g, d, tk, os⟩ := s
  wp_walk using wpAny_load h
  exact ⟨_, rfl, rfl, hq⟩
theorem decl_sub {i : Int} {t : Tok} {Q : Shared → Prop} (h : s.heap.get? x = some (PySem.W.instObj C dx)) (hq : Q s) :
    wpAny (model prog w) A (Builtin.«int.__sub__» ⟨[.int i t, .ref x], []⟩) (fun fin s' => ∃ v, fin = .done (.ret v) ∧ v = .notImplemented ∧ Q s') E s := by
  obtain ⟨hp, g, d, tk, os⟩ := s
  wp_walk using wpAny_load h
  exact ⟨_, rfl, rfl, hq⟩
theorem decl_mul {i : Int} {t : Tok} {Q : Shared → Prop} (h : s.heap.get? x = some (PySem.W.instObj C dx)) (hq : Q s) :
    wpAny (model prog w) A (Builtin.«int.__mul__» ⟨[.int i t, .ref x], []⟩) (fun fin s' => ∃ v, fin = .done (.ret v) ∧ v = .notImplemented ∧ Q s') E s := by
  obtain ⟨hp, g, d, tk, os⟩ := s
  wp_walk using wpAny_load h
  exact ⟨_, rfl, rfl, hq⟩
end
end Own
namespace Own
open PySem PySem.Spec PyProof.Rows
section
variable {prog : Program} {w : World} {A : Around} {E : Value → Shared → Prop} {s : Shared} {K : PySem.W.Frag} {x C dx f f0 : Addr} {od : Option Obj} {op : Operator} {id : String}
/-- an int declines an operator beside an instance, then the instance's reflected one is asked -/
theorem binR {i : Int} {t : Tok} {Q : Value → Shared → Prop} (KX : K.In s.heap) (I : PySem.W.InstAt s.heap x (PySem.W.instObj C dx) C od) (hc : PySem.W.selfFirst K C = true)
    (h0 : PySem.W.findIn K (.ref C) (PySem.dunder op.info.2) = some (some (.ref f0))) (h1 : PySem.W.findIn K (.ref C) (dunderR op.info.2) = some (some (.ref f))) (hf : PySem.W.isFn K (.ref f) = true)
    (hsub : PySem.W.subIn K (.ref C) (.type "int") = some false) (hfill : fillsNumberSlot (.type "int") op.info.2 = pure true) (slot : Slot "int" (PySem.dunder op.info.2) id)
    (decl : wpAny (model prog w) A (call (.builtin id) [.int i t, .ref x]) (fun v s' => v = .notImplemented ∧ s'.heap = s.heap ∧ s'.gens = s.gens ∧ s'.drawn = s.drawn ∧ s'.os = s.os ∧ s'.toks = s.toks) E s)
    (h : wpAny (model prog w) A (call (.ref f) [.ref x, .int i t]) (PySem.W.CmpBack Q) E s) : wpAny (model prog w) A (binaryOp op (.int i t) (.ref x)) Q E s := by
  obtain ⟨cd, rest, hcd, hm⟩ := PySem.W.ksp_first hc
  rcases hi : op.info with ⟨sym, nm⟩
  rw [hi] at h0 h1 hfill slot
  dsimp only at h0 h1 hfill slot
  have two := PySem.W.ksp_try KX I h1 hf h
  obtain ⟨hh, g, d, tt, os⟩ := s
  have L1 : PySem.W.Looks (model prog w) hh (typeOf (.ref x)) (.ref C) := I.type
  have L3 : PySem.W.Looks (model prog w) hh (fillsNumberSlot (.ref C) nm) true := PySem.W.fills_K KX hcd hm h0
  have L5 : PySem.W.Looks (model prog w) hh (isSubtype (.ref C) (.type "int")) false := PySem.W.looks_subIn KX hsub
  have hne : (Value.type "int" == Value.ref C) = false := Bool.eq_false_iff.mpr fun q => by cases beq_iff_eq.mp q
  have hpy : numberSlotInPython (.type "int") nm = pure false := rfl
  have one : wpAny (model prog w) A (tryMethod (.int i t) (PySem.dunder nm) (.ref x)) (fun r s' => r = none ∧ s'.heap = hh ∧ s'.gens = g ∧ s'.drawn = d ∧ s'.os = os ∧ s'.toks = tt) E ⟨hh, g, d, tt, os⟩ :=
    wpAny_tryMethod_declines (T := "int") (typeIs_int _ i t) slot (wpAny_mono decl (fun v s' q => ⟨q.1, rfl, q.2⟩) fun _ _ e => e)
  simp only [binaryOp, hi]
  refine wpAny_holding (wpAny_bind ?_)
  unfold binaryOp1
  refine wpAny_bind (wpAny_typeOf (typeIs_int _ i t) (wpAny_bind (L1.at (wpAny_bind (wpAny_of_eq hfill ?_)))))
  simp only [hne, Bool.false_eq_true, if_false]
  refine wpAny_bind (L3.at ?_)
  simp only [Bool.and_self, if_true]
  refine wpAny_bind (L5.at ?_)
  simp only [Bool.false_eq_true, if_false, pure_bind, Bool.not_false, Bool.and_self, if_true, hpy]
  refine wpAny_bind (wpAny_mono one (fun r s' q => ?_) fun _ _ e => e)
  obtain ⟨h1, g1, d1, t1, o1⟩ := s'
  obtain ⟨rfl, q1, q2, q3, q4, q5⟩ := q
  dsimp only at q1 q2 q3 q4 q5
  subst q1 q2 q3 q4 q5
  dsimp only
  refine wpAny_bind (wpAny_mono two (fun r s' q => ?_) fun _ _ e => e)
  obtain ⟨v, rfl, q⟩ := q
  exact wpAny_bind (wpAny_rule (wpAny_pure (wpAny_pure q)))
end
end Own
namespace Own
open PySem PySem.Spec PyProof.Rows
theorem slot_ne : Slot "object" "__ne__" "object.__ne__" :=
  .of (T := "object") (name := "__ne__") (owner := "object") (n := "__ne__") (by rw [typeLookup_type, builtinLookup_eq_fast]; kernel_rfl) (by decide +kernel) (by decide +kernel) (by decide +kernel)
    (.inl (by decide +kernel)) (by rw [isSubtype_type]; kernel_rfl)
section
variable {prog : Program} {w : World} {A : Around} {E : Value → Shared → Prop} {s : Shared} {K : PySem.W.Frag} {x C dx f : Addr} {od : Option Obj} {b tb : Value}
theorem check_ne {M : Model} {Q : Unit → Shared → Prop} (I : PySem.W.InstAt s.heap x (PySem.W.instObj C dx) C od) (KX : K.In s.heap) (ho : PySem.W.subIn K (.ref C) (.type "object") = some true) (h : Q () s) :
    wpAny M A (checkBuiltinCall "object.__ne__" ⟨[.ref x, b], []⟩) Q E s := by
  have ha : argsOk "object.__ne__" ⟨[.ref x, b], []⟩ := by unfold argsOk; kernel_rfl
  have L : PySem.W.Looks M s.heap (isSubtype (.ref C) (.type "object")) true := PySem.W.looks_subIn KX ho
  have at_ := I.at_
  obtain ⟨hp, g, d, t, os⟩ := s
  simp only [checkBuiltinCall, F.cmpKind_ne, F.cmpSplit_ne]
  refine wpAny_bind ?_
  unfold isInstance
  repeat (first | (with_reducible refine wpAny_loadPart_at at_ ?_) | (with_reducible refine L.at ?_) | wp_step)
  exact h
/-- != of an instance whose class has an own == alone -/
theorem ne_K {Q : Value → Shared → Prop} (hu : A.units + 1 < cLine) (KX : K.In s.heap) (I : PySem.W.InstAt s.heap x (PySem.W.instObj C dx) C od) (hb : PySem.W.Looks (model prog w) s.heap (typeOf b) tb) (hn : PySem.W.notFirst K C tb = true)
    (h0 : PySem.W.findIn K (.ref C) "__ne__" = some (some (.builtin "object.__ne__"))) (h1 : PySem.W.findIn K (.ref C) "__eq__" = some (some (.ref f))) (hf : PySem.W.isFn K (.ref f) = true) (ho : PySem.W.subIn K (.ref C) (.type "object") = some true)
    (h : wpAny (model prog w) A.in1 (call (.ref f) [.ref x, b]) (fun v s' => ∃ c, v = .bool c ∧ Q (.bool (!c)) s') E s) : wpAny (model prog w) A (richCompare .NotEq (.ref x) b) Q E s := by
  have eqc : wpAny (model prog w) A.in1 (callSpecialIfBound? (.ref x) (Str.ofString "__eq__") [b]) (fun r s' => ∃ c, r = some (.bool c) ∧ Q (.bool (!c)) s') E s :=
    PySem.W.ifBound_K KX I h1 hf (wpAny_mono h (fun v s' ⟨c, e, q⟩ => ⟨c, by rw [e], q⟩) fun _ _ e => e)
  have body : wpAny (model prog w) A.in1 (Builtin.«object.__ne__» ⟨[.ref x, b], []⟩) (fun fin s' => ∃ v, fin = .done (.ret v) ∧ ∃ c, v = .bool (!c) ∧ Q (.bool (!c)) s') E s := by
    obtain ⟨hp, g, d, t, os⟩ := s
    unfold Builtin.«object.__ne__»
    repeat (first
      | with_reducible refine wpAny_cRoomFor hu ?_
      | (refine wpAny_bind (m := callSpecialIfBound? (.ref x) (Str.ofString "__eq__") [b]) (wpAny_mono eqc (fun r s' hr => ?_) fun _ _ e => e))
      | wp_step)
    obtain ⟨c, rfl, q⟩ := hr
    repeat (first
      | exact ⟨_, rfl, c, rfl, q⟩
      | exact wpAny_pure ⟨_, rfl, c, rfl, q⟩
      | (refine wpAny_bind (m := truthy (.bool _)) (wpAny_truthy_bool ?_))
      | wp_step)
  have one : wpAny (model prog w) A (tryCompare (.ref x) (Str.ofString "__ne__") b) (fun r s' => ∃ c, r = some (.bool (!c)) ∧ Q (.bool (!c)) s') E s := by
    unfold tryCompare
    refine wpAny_bind ?_
    simp only [callSpecialIfBound?, bindSpecialIfBound?]
    refine wpAny_holding (wpAny_bind (wpAny_bind (wpAny_bind (I.type.here ((PySem.W.looks_findIn KX h0).here ?_)))))
    have last : wpAny (model prog w) A (call (.builtin "object.__ne__") ([.ref x] ++ [b]) >>= fun v => pure (some v)) (fun a s' => wpAny (model prog w) A (match a with | some .notImplemented | none => pure none | some v => pure (some v)) (fun r s' => ∃ c, r = some (.bool (!c)) ∧ Q (.bool (!c)) s') E s') E s := by
      refine wpAny_bind (wpAny_call (codeAny_call_builtin slot_ne.plain F.cmpEntry_ne (check_ne I KX ho (wpAny_mono body (fun fin s' hv => ?_) fun _ _ e => e))))
      obtain ⟨v, rfl, c, rfl, q⟩ := hv
      exact wpAny_pure (wpAny_pure ⟨c, rfl, q⟩)
    refine wpAny_bind (wpAny_askSetting (wpAny_ite ?_))
    simp only [slot_ne.bind]
    split
    · exact wpAny_bind (wpAny_pure (wpAny_pure last))
    · exact wpAny_tryCatch (wpAny_bind (wpAny_pure (wpAny_pure last)))
  unfold richCompare
  simp only [PySem.oneThing_ref]
  refine wpAny_holding (wpAny_bind (wpAny_cRoomFor (Nat.lt_of_succ_lt hu) ?_))
  rw [cmpInfo_NotEq]
  dsimp only
  refine wpAny_bind (I.type.here (wpAny_bind (hb.here ?_)))
  have tail : wpAny (model prog w) A (tryCompare (.ref x) (Str.ofString "__ne__") b) (fun r s' => ∃ v, r = some v ∧ Q v s') E s :=
    wpAny_mono one (fun r s' ⟨c, e, q⟩ => ⟨_, e, q⟩) fun _ _ e => e
  split
  · rename_i q
    have e : PySem.W.subIn K tb (.ref C) = some false := by
      rcases Bool.or_eq_true_iff.mp hn with e | e
      · rw [beq_iff_eq.mp e] at q; simp at q
      · exact beq_iff_eq.mp e
    refine wpAny_bind ((PySem.W.looks_subIn KX e).here ?_)
    simp only [Bool.false_eq_true, if_false]
    refine wpAny_bind (wpAny_mono tail (fun r s' z => ?_) fun _ _ e => e)
    obtain ⟨v, rfl, hq⟩ := z
    exact wpAny_pure hq
  · refine wpAny_bind (wpAny_pure ?_)
    simp only [Bool.false_eq_true, if_false]
    refine wpAny_bind (wpAny_mono tail (fun r s' z => ?_) fun _ _ e => e)
    obtain ⟨v, rfl, hq⟩ := z
    exact wpAny_pure hq
end
end Own
namespace Own
open PySem PySem.Spec PyProof.Rows L2
section
variable {X : Cx} {CX : CXT} {k : Nat} {f f0 C : Addr} {fd : FuncData} {ps : List Str} {sp : Sp} {E : XK} {op : Operator}
/-- a call one step further in -/
theorem runIn {pins : List (Addr × Obj)} {σ : L2.St} {H : Hp} {s : Shared} {Q : VK} {us : List Value} {vs : List V} (F : FnOk X.prog X.w X.K X.mg X.base CX k f fd ps sp) (hr : Room (k + 1) X.A) (hb : Binds X.K fd ps []) (hx : Passes CX X E)
    (I : Inv X pins σ H s) (r : Vals vs us) (h : sp vs H Q E) : wpAny (model X.prog X.w) X.A.in1 (PySem.call (.ref f) us) (EP X pins σ Q) X.xe s := by
  have hl : us.length = ps.length := by rw [← r.length]; exact F.len _ _ _ _ h
  have hb' := hb s us I.kIn (by simpa using hl)
  rw [List.append_nil] at hb'
  refine wpAny_call (codeAny_mono (F.run X.A.in1 X.stack s H ⟨us, []⟩ us vs Q E hr.in1 I.env0.in1 hb' r h) fun r s' hq => ?_)
  cases r with
  | error e => exact hx pins σ H s e s' I hq
  | ok fl =>
    cases fl with
    | ret u => exact I.after hq
    | next => exact False.elim hq
    | brk => exact False.elim hq
    | cont => exact False.elim hq
structure BinR (K : PySem.W.Frag) (C f : Addr) (op : Operator) : Prop where
  first : PySem.W.selfFirst K C = true
  l : ∃ f0 : Addr, PySem.W.findIn K (.ref C) (PySem.dunder op.info.2) = some (some (.ref f0))
  at_ : PySem.W.findIn K (.ref C) (dunderR op.info.2) = some (some (.ref f))
  fn : PySem.W.isFn K (.ref f) = true
  sub : PySem.W.subIn K (.ref C) (.type "int") = some false
def rRight (C : Addr) (sp : Sp) (E : XK) : R2 := fun x y H Q => ∃ i a dx fs, x = .int i ∧ y = .ref a ∧ H a = some (.ins C dx fs) ∧ sp [.ref a, .int i] H Q E
theorem opR_of {id : String} {B : Builtin} (hfill : fillsNumberSlot (.type "int") op.info.2 = pure true) (slot : Slot "int" (PySem.dunder op.info.2) id) (entry : entryFor table id = some B) (args : ∀ a b : Value, argsOk id ⟨[a, b], []⟩)
    (decl : ∀ {prog : Program} {w : World} {A : Around} {E : Value → Shared → Prop} {s : Shared} {x C dx : Addr} {i : Int} {t : Tok} {Q : Shared → Prop}, s.heap.get? x = some (PySem.W.instObj C dx) → Q s →
      wpAny (model prog w) A (B ⟨[.int i t, .ref x], []⟩) (fun fin s' => ∃ v, fin = .done (.ret v) ∧ v = .notImplemented ∧ Q s') E s)
    (F : FnOk X.prog X.w X.K X.mg X.base CX k f fd ps sp) (hr : Room k X.A) (Z : BinR X.K C f op) (hb : Binds X.K fd ps []) (hx : Passes CX X E) : OpR X (binaryOp op) (rRight C sp E) := by
  rintro pins s σ H x y u v Q I rx ry ⟨i, a, dx, fs, rfl, rfl, ha, q⟩
  obtain ⟨t, rfl⟩ := (show ∃ t, u = Value.int i t from rx)
  cases ry
  obtain ⟨od, J⟩ := inst I ha
  obtain ⟨z1, ⟨f0, z2⟩, z3, z4, z5⟩ := Z
  exact binR I.kIn J z1 z2 z3 z4 z5 hfill slot (wpAny_call_entry slot (typeIs_int s i t) entry (wpAny_mono (decl (Q := fun s' => s'.heap = s.heap ∧ s'.gens = s.gens ∧ s'.drawn = s.drawn ∧ s'.os = s.os ∧ s'.toks = s.toks) J.at_ ⟨rfl, rfl, rfl, rfl, rfl⟩) (fun fin s' ⟨v, e, q⟩ => ⟨v, e, q⟩) fun _ _ e => e) (args _ _))
    (back (run2 (x := .ref a) (y := .int i) F hr hb hx I rfl ⟨t, rfl⟩ q))
theorem opRadd (F : FnOk X.prog X.w X.K X.mg X.base CX k f fd ps sp) (hr : Room k X.A) (Z : BinR X.K C f .Add) (hb : Binds X.K fd ps []) (hx : Passes CX X E) : OpR X (binaryOp .Add) (rRight C sp E) :=
  opR_of PySem.F.fills_int_add PySem.F.slot_int_add PySem.F.entry_int_add PySem.F.args_int_add_2 decl_add F hr Z hb hx
theorem opRsub (F : FnOk X.prog X.w X.K X.mg X.base CX k f fd ps sp) (hr : Room k X.A) (Z : BinR X.K C f .Sub) (hb : Binds X.K fd ps []) (hx : Passes CX X E) : OpR X (binaryOp .Sub) (rRight C sp E) :=
  opR_of PySem.F.fills_int_sub PySem.F.slot_int_sub PySem.F.entry_int_sub PySem.F.args_int_sub_2 decl_sub F hr Z hb hx
theorem opRmul (F : FnOk X.prog X.w X.K X.mg X.base CX k f fd ps sp) (hr : Room k X.A) (Z : BinR X.K C f .Mult) (hb : Binds X.K fd ps []) (hx : Passes CX X E) : OpR X (binaryOp .Mult) (rRight C sp E) :=
  opR_of PySem.F.fills_int_mul PySem.F.slot_int_mul PySem.F.entry_int_mul PySem.F.args_int_mul_2 decl_mul F hr Z hb hx
structure Ne (K : PySem.W.Frag) (C f : Addr) : Prop where
  ne : PySem.W.findIn K (.ref C) "__ne__" = some (some (.builtin "object.__ne__"))
  eq : PySem.W.findIn K (.ref C) "__eq__" = some (some (.ref f))
  fn : PySem.W.isFn K (.ref f) = true
  ob : PySem.W.subIn K (.ref C) (.type "object") = some true
def rNeOwn (K : PySem.W.Frag) (C : Addr) (sp : Sp) (E : XK) : R2 := fun x y H Q => ∃ a dx fs t, x = .ref a ∧ H a = some (.ins C dx fs) ∧ TyX K H y t ∧ PySem.W.notFirst K C t = true ∧ sp [.ref a, y] H (fun v H' => ∃ b, v = .bl b ∧ Q (.bl (!b)) H') E
theorem ne (F : FnOk X.prog X.w X.K X.mg X.base CX k f fd ps sp) (hr : Room (k + 1) X.A) (Z : Ne X.K C f) (hb : Binds X.K fd ps []) (hx : Passes CX X E) : OpR X (compareOp .NotEq) (rNeOwn X.K C sp E) := by
  rintro pins s σ H x y u v Q I rx ry ⟨a, dx, fs, t, rfl, ha, ty, nf, q⟩
  cases rx
  obtain ⟨od, J⟩ := inst I ha
  have hu : X.A.units + 1 < cLine := hu_of hr
  exact ne_K hu I.kIn J (typed I ry ty) nf Z.ne Z.eq Z.fn Z.ob (wpAny_mono (runIn (us := [.ref a, v]) (vs := [.ref a, y]) F hr hb hx I (.cons rfl (.cons ry .nil)) q) (fun r s' hq => by
    obtain ⟨z, H', I', rz, b, rfl, q'⟩ := hq
    cases rz
    exact ⟨b, rfl, .bl (!b), H', I', rfl, q'⟩) fun _ _ e => e)
/-- len(o) by the own __len__ -/
theorem len (F : FnOk X.prog X.w X.K X.mg X.base CX k f fd ps sp) (hr : Room (k + 1) X.A) (B : Sp1 X.K C "__len__" f) (hb : Binds X.K fd ps []) (hx : Passes CX X E) :
    CallR X (.builtin "len") (fun xs H Q => ∃ a dx fs, xs = [.ref a] ∧ H a = some (.ins C dx fs) ∧ sp [.ref a] H (fun v H' => ∃ n, v = .int n ∧ 0 ≤ n ∧ n < 2 ^ 63 ∧ Q (.int n) H') E) := by
  rintro pins s σ H xs us Q I rs ⟨a, dx, fs, rfl, ha, q⟩
  cases rs with
  | cons r rest =>
    cases rest
    cases r
    obtain ⟨od, J⟩ := inst I ha
    obtain ⟨m, hF⟩ := I.fr
    refine PySem.W.len_K hF I.ok.mod.kin J B.at_ B.fn (wpAny_mono (runIn (us := [.ref a]) (vs := [.ref a]) F hr hb hx I (.cons rfl .nil) q) (fun r s' hq => ?_) fun _ _ e => e)
    obtain ⟨z, H', I', rz, n, rfl, h0, h1, q'⟩ := hq
    obtain ⟨t, rfl⟩ := (show ∃ t, r = Value.int n t from rz)
    exact ⟨⟨h0, h1⟩, .int n, H', I'.tok _, ⟨_, rfl⟩, q'⟩
end
theorem fnR_of {P : Program} {w : World} {K : PySem.W.Frag} {mg : Str → Option Value} {base : Heap} {CX : CXT} {k : Nat} {f : Addr} {fd : FuncData} {ps : List Str} {sp : Sp} (F : FnOk P w K mg base CX k f fd ps sp) (hb : Binds K fd ps []) : FnR P w K mg base CX k f sp := by
  intro A outer s H us vs Q E hr e0 r h
  have KX : K.In s.heap := e0.mod.kin.keeps fun b o e => (e0.bs b o e).1
  have hl : us.length = ps.length := by rw [← r.length]; exact F.len _ _ _ _ h
  have hb' := hb s us KX (by simpa using hl)
  rw [List.append_nil] at hb'
  exact F.run A outer s H ⟨us, []⟩ us vs Q E hr e0 hb' r h
def rIop (C : Addr) (sp : Sp) (E : XK) : R2 := fun x y H Q => ∃ a dx fs, x = .ref a ∧ H a = some (.ins C dx fs) ∧ sp [.ref a, y] H Q E
theorem pip {X : Cx} {C : Addr} {sp : Sp} {E : XK} {op : Operator} (h : OpR X (inplaceOp op) (fun x y H Q => ∃ a dx fs, x = .ref a ∧ H a = some (.ins C dx fs) ∧ sp [.ref a, y] H Q E)) : PIp X op (rIop C sp E) :=
  fun pins s σ H x y v u Q I rx ry q => h pins s σ H x y v u Q I rx ry q
theorem iop2 {H : Hp} {Q : VK} {C a dx : Addr} {sp : Sp} {E : XK} {fs : List (Str × V)} {y : V} (ha : H a = some (.ins C dx fs)) (h : sp [.ref a, y] H Q E) : rIop C sp E (.ref a) y H Q := ⟨a, dx, fs, rfl, ha, h⟩
/-- f(e, ..), f an expression that gives an instance of C: the reading speaks of the heap alone -/
def tCallI (C : Addr) (sp : Sp) (E : XK) (tf : TE) (t : TA) : TE := fun σ H Q => tf σ H fun y H1 => ∃ a, y = V.ref a ∧ t σ H1 fun vs H2 => (∃ dx fs, H2 a = some (.ins C dx fs)) ∧ sp (V.ref a :: vs) H2 Q E
theorem pe_callI {X : Cx} {CX : CXT} {k : Nat} {g C : Addr} {sp : Sp} {E : XK} {fe e : Expr} {es : List Expr} {tf : TE} {t : TA} {pos : Pos} (hf : PE X fe tf) (c : StX.CallO X.K C g) (F : FnR X.prog X.w X.K X.mg X.base CX k g sp) (hr : Room k X.A) (hx : Passes CX X E) (ha : PA X (e :: es) t)
    (ht : eval (.Call fe (e :: es) [] pos) X.env = (do callWith pos (← eval fe X.env) [] (backTo pos (starEach (e :: es) X.env)) (backToKw pos (keywordEach [] X.env))) := by rfl)
    (he : starEach (e :: es) X.env = (false, eval e X.env) :: starEach es X.env := by rfl) (hpl : (backTo pos (starEach es X.env)).any (·.1) = false := by rfl) : PE X (.Call fe (e :: es) [] pos) (tCallI C sp E tf t) := by
  refine ⟨fun pins s σ H Q I h => Call_ (thn (hf.run pins s σ H _ I h) fun u s1 z => ?_) ht⟩
  obtain ⟨y, H1, I1, ry, a, rfl, q⟩ := z
  cases ry
  refine StX.callO_with (thn (ha.run pos pins s1 σ H1 _ I1 q) fun us s2 z2 => ?_) he hpl
  obtain ⟨vs, H2, I2, r, hi, q2⟩ := z2
  obtain ⟨od, J⟩ : ∃ od, PySem.W.InstAt s2.heap a (PySem.W.instObj C hi.choose) C od := inst I2 hi.choose_spec.choose_spec
  exact ⟨⟨C, _, od, J, rfl⟩, StX.run_callO c F hr hx I2 (.inr hi) r q2⟩
section
variable {σ : L2.St} {H : Hp} {Q : VK} {C : Addr} {sp : Sp} {E : XK}
theorem opS2 {a b dx dy : Addr} {fs gs : List (Str × V)} (ha : H a = some (.ins C dx fs)) (hb : H b = some (.ins C dy gs)) (h : sp [.ref a, .ref b] H Q E) : rSame C sp E (.ref a) (.ref b) H Q := ⟨a, b, dx, dy, fs, gs, rfl, rfl, ha, hb, h⟩
theorem opT2 {a dx : Addr} {fs : List (Str × V)} {T : String} {y : V} (ha : H a = some (.ins C dx fs)) (ty : ∀ u, RelV y u → typeOf u = pure (.type T)) (h : sp [.ref a, y] H Q E) : rLeft C T sp E (.ref a) y H Q := ⟨a, dx, fs, rfl, ha, ty, h⟩
theorem opR2 {a dx : Addr} {fs : List (Str × V)} {i : Int} (ha : H a = some (.ins C dx fs)) (h : sp [.ref a, .int i] H Q E) : rRight C sp E (.int i) (.ref a) H Q := ⟨i, a, dx, fs, rfl, rfl, ha, h⟩
theorem neg2 {a dx : Addr} {fs : List (Str × V)} (ha : H a = some (.ins C dx fs)) (h : sp [.ref a] H Q E) : rOne C sp E (.ref a) H Q := ⟨a, dx, fs, rfl, ha, h⟩
theorem cmp2 {K : PySem.W.Frag} {a dx : Addr} {fs : List (Str × V)} {y : V} {t : Value} (ha : H a = some (.ins C dx fs)) (ty : TyX K H y t) (nf : PySem.W.notFirst K C t = true) (h : sp [.ref a, y] H Q E) : rCmp K C sp E (.ref a) y H Q := ⟨a, dx, fs, t, rfl, ha, ty, nf, h⟩
theorem ne2 {K : PySem.W.Frag} {a dx : Addr} {fs : List (Str × V)} {y : V} {t : Value} (ha : H a = some (.ins C dx fs)) (ty : TyX K H y t) (nf : PySem.W.notFirst K C t = true) (h : sp [.ref a, y] H (fun v H' => ∃ b, v = .bl b ∧ Q (.bl (!b)) H') E) : rNeOwn K C sp E (.ref a) y H Q := ⟨a, dx, fs, t, rfl, ha, ty, nf, h⟩
theorem callI {tf : TE} {t : TA} (h : tf σ H fun y H1 => ∃ a, y = V.ref a ∧ t σ H1 fun vs H2 => (∃ dx fs, H2 a = some (.ins C dx fs)) ∧ sp (V.ref a :: vs) H2 Q E) : tCallI C sp E tf t σ H Q := h
theorem ty_int {i : Int} : ∀ u, RelV (.int i) u → typeOf u = pure (.type "int") := by
  rintro u ⟨t, rfl⟩
  rfl
end
end Own
/-! ## lists made of lists, and what == says of ints -/
namespace Rd
open PySem PySem.Spec PyProof.Rows L2
theorem lc {wi : TI} {g : TG} {tt : TT} {te : TE} {vs : List Nat} {σ : L2.St} {H : Hp} {Q : VK} (h : wi σ H fun J H1 => ∀ D, H1 D = none → ∃ W : Nat → Nat → Hp → Prop, (∃ m, W 0 m (upd H1 D (.lst []))) ∧ ∀ i m H, W i m H →
    (J.stop i H ∧ Q (.ref D) H) ∨ (J.go i H ∧ ∃ Nx : Hp → Prop, (∀ H', Nx H' → ∃ m', m' < m ∧ W (i + 1) m' H') ∧ ∀ x H', J.yld i H x H' → g x (wipe σ vs) H' fun σ2 H2 => wipe σ2 vs = wipe σ vs ∧ tt σ2 H2 fun b H3 =>
      if b = true then te σ2 H3 fun y H4 => ∃ acc, H4 D = some (.lst acc) ∧ acc.length < sizeLine ∧ Nx (upd H4 D (.lst (acc ++ [y]))) else Nx H3)) : tLc wi g tt te vs σ H Q := h
theorem il {K : PySem.W.Frag} {tl : TE} {σ : L2.St} {H : Hp} {R : It → Hp → Prop} (h : tl σ H fun x H1 => ∃ a, x = .ref a ∧ (∃ xs, SqL K H1 a xs) ∧ R (Itl K a) H1) : iList K tl σ H R := h
theorem same_upd {H H' : Hp} {D : Addr} {o : HO} (hD : H D = none) (S : Same H H') : Same H (upd H' D o) := fun b u e => by
  rw [upd_ne (ne_of_none e hD)]
  exact S b u e
/-- [e for x in l]: the items' images, where e makes the image and leaves what was tracked -/
theorem lcMap {α : Type} {items : List α} {inj res : α → V} {K : PySem.W.Frag} {a : Addr} {i : Nat} {te : TE} {vs : List Nat} {σ : L2.St} {H : Hp} {Q : VK} (hs : SqL K H a (items.map inj)) (hn : items.length ≤ 1000)
    (hw : ∀ x, wipe ((wipe σ vs).set i (some x)) vs = wipe σ vs)
    (elem : ∀ x ∈ items, ∀ H', Same H H' → ∀ R : VK, (∀ H'', Same H' H'' → R (res x) H'') → te ((wipe σ vs).set i (some (inj x))) H' R)
    (k : ∀ (p : Addr) (H' : Hp), H p = none → Same H H' → H' p = some (.lst (items.map res)) → Q (.ref p) H') :
    (∃ xs, SqL K H a xs) ∧ ∀ D, H D = none → ∃ W : Nat → Nat → Hp → Prop, (∃ m, W 0 m (upd H D (.lst []))) ∧ ∀ t m H, W t m H →
      ((Itl K a).stop t H ∧ Q (.ref D) H) ∨ ((Itl K a).go t H ∧ ∃ Nx : Hp → Prop, (∀ H', Nx H' → ∃ m', m' < m ∧ W (t + 1) m' H') ∧ ∀ x H', (Itl K a).yld t H x H' → (gName i) x (wipe σ vs) H' fun σ2 H2 => wipe σ2 vs = wipe σ vs ∧ tYes σ2 H2 fun b H3 =>
        if b = true then te σ2 H3 fun y H4 => ∃ acc, H4 D = some (.lst acc) ∧ acc.length < sizeLine ∧ Nx (upd H4 D (.lst (acc ++ [y]))) else Nx H3) := by
  refine ⟨⟨_, hs⟩, fun D hD => lc_list (xs := items.map inj) (fun t H' => Same H H' ∧ H' D = some (.lst ((items.take t).map res))) ⟨same_upd hD (Same.refl _), upd_same⟩ (fun t H' _ p => p.1.seq hs) (fun t x H' hx p => ?_) (fun H' p => ?_)⟩
  · obtain ⟨S, hl⟩ := p
    rw [List.getElem?_map] at hx
    cases e : items[t]? with
    | none => rw [e] at hx; cases hx
    | some y =>
      rw [e] at hx
      cases hx
      have hy : y ∈ items := List.mem_of_getElem? e
      have ht : t < items.length := (List.getElem?_eq_some_iff.mp e).1
      refine ⟨hw _, iteT (B := Same H H' ∧ H' D = some (.lst ((items.take (t + 1)).map res))) rfl (elem y hy H' S _ fun H'' S' => ⟨_, S' _ _ hl, ?_, ?_, ?_⟩)⟩
      · rw [List.length_map, List.length_take]
        exact small1000 (by omega)
      · exact same_upd hD (S.trans S')
      · rw [upd_same, List.take_add_one, e]
        simp
  · obtain ⟨S, hl⟩ := p
    rw [List.length_map, List.take_length] at hl
    exact k D H' hD S hl
theorem lcMapI {ns : List Int} {g : Int → Int} {K : PySem.W.Frag} {a : Addr} {i : Nat} {te : TE} {vs : List Nat} {σ : L2.St} {H : Hp} {Q : VK} (hs : SqL K H a (ns.map V.int)) (hn : ns.length ≤ 1000)
    (hw : ∀ x, wipe ((wipe σ vs).set i (some x)) vs = wipe σ vs)
    (elem : ∀ x ∈ ns, ∀ H', Same H H' → ∀ R : VK, (∀ H'', Same H' H'' → R (.int (g x)) H'') → te ((wipe σ vs).set i (some (.int x))) H' R)
    (k : ∀ (p : Addr) (H' : Hp), H p = none → Same H H' → H' p = some (.lst ((ns.map g).map V.int)) → Q (.ref p) H') :
    (∃ xs, SqL K H a xs) ∧ ∀ D, H D = none → ∃ W : Nat → Nat → Hp → Prop, (∃ m, W 0 m (upd H D (.lst []))) ∧ ∀ t m H, W t m H →
      ((Itl K a).stop t H ∧ Q (.ref D) H) ∨ ((Itl K a).go t H ∧ ∃ Nx : Hp → Prop, (∀ H', Nx H' → ∃ m', m' < m ∧ W (t + 1) m' H') ∧ ∀ x H', (Itl K a).yld t H x H' → (gName i) x (wipe σ vs) H' fun σ2 H2 => wipe σ2 vs = wipe σ vs ∧ tYes σ2 H2 fun b H3 =>
        if b = true then te σ2 H3 fun y H4 => ∃ acc, H4 D = some (.lst acc) ∧ acc.length < sizeLine ∧ Nx (upd H4 D (.lst (acc ++ [y]))) else Nx H3) :=
  lcMap (inj := V.int) (res := fun x => .int (g x)) hs hn hw elem fun p H' hp S h => k p H' hp S (by rw [List.map_map]; exact h)
theorem lcVarI {ns : List Int} {g : Int → Int} {K : PySem.W.Frag} {a : Addr} {i j : Nat} {te : TE} {vs : List Nat} {σ : L2.St} {H : Hp} {Q : VK} (ej : σ[j]? = some (some (.ref a))) (hs : SqL K H a (ns.map V.int)) (hn : ns.length ≤ 1000)
    (hw : ∀ x, wipe ((wipe σ vs).set i (some x)) vs = wipe σ vs)
    (elem : ∀ x ∈ ns, ∀ H', Same H H' → ∀ R : VK, (∀ H'', Same H' H'' → R (.int (g x)) H'') → te ((wipe σ vs).set i (some (.int x))) H' R)
    (k : ∀ (p : Addr) (H' : Hp), H p = none → Same H H' → H' p = some (.lst ((ns.map g).map V.int)) → Q (.ref p) H') : tLc (iList K (tVar j)) (gName i) tYes te vs σ H Q :=
  lc (il ⟨_, ej, _, rfl, lcMapI hs hn hw elem k⟩)
/-- [e for x in l if t] where t never holds: a new empty list -/
theorem lcNone {items : List V} {K : PySem.W.Frag} {a : Addr} {i j : Nat} {te : TE} {tt : TT} {vs : List Nat} {σ : L2.St} {H : Hp} {Q : VK} (ej : σ[j]? = some (some (.ref a))) (hs : SqL K H a items)
    (hw : ∀ x, wipe ((wipe σ vs).set i (some x)) vs = wipe σ vs)
    (test : ∀ x ∈ items, ∀ H', Same H H' → ∀ R : Bool → Hp → Prop, (∀ H'', Same H' H'' → R false H'') → tt ((wipe σ vs).set i (some x)) H' R)
    (k : ∀ (p : Addr) (H' : Hp), H p = none → Same H H' → H' p = some (.lst []) → Q (.ref p) H') : tLc (iList K (tVar j)) (gName i) tt te vs σ H Q := by
  refine lc (il ⟨_, ej, _, rfl, ⟨_, hs⟩, fun D hD => lc_list (xs := items) (fun _ H' => Same H H' ∧ H' D = some (.lst [])) ⟨same_upd hD (Same.refl _), upd_same⟩ (fun t H' _ p => p.1.seq hs) (fun t x H' hx p => ?_) (fun H' p => k D H' hD p.1 p.2)⟩)
  obtain ⟨S, hl⟩ := p
  refine ⟨hw _, test x (List.mem_of_getElem? hx) H' S _ fun H'' S' => ?_⟩
  exact iteF (A := te _ H'' _) rfl ⟨S.trans S', S' _ _ hl⟩
theorem mulB {a n : Int} {A B : Nat} (ha : a.natAbs < 2 ^ A) (hn : n.natAbs < 2 ^ B) : -(2 ^ (A + B)) < a * n ∧ a * n < 2 ^ (A + B) := by
  have h := wide_lt ha hn
  have e : ((2 ^ (A + B) : Nat) : Int) = (2 : Int) ^ (A + B) := by simp
  rw [← e]
  omega
theorem dp_ints {K : PySem.W.Frag} {H : Hp} : ∀ ns : List Int, DpAll K H (ns.map V.int) (ns.map PyData.int)
  | [] => .nil
  | _ :: r => .cons (.int _) (dp_ints r)
theorem dp_listI {K : PySem.W.Frag} {H : Hp} {a : Addr} {ns : List Int} (h : SqL K H a (ns.map V.int)) : Dp K H (.ref a) (.list (ns.map PyData.int)) := .lst h (dp_ints ns)
theorem can_ints : ∀ ns : List Int, PyData.canLayAll0 (ns.map PyData.int) = true
  | [] => by simp [PyData.canLayAll0]
  | _ :: r => by simp only [List.map_cons, PyData.canLayAll0, PyData.canLay0, can_ints r, Bool.and_self]
theorem dep_ints : ∀ ns : List Int, PyData.depthAll (ns.map PyData.int) = 0
  | [] => by simp [PyData.depthAll]
  | _ :: r => by simp only [List.map_cons, PyData.depthAll, PyData.depth, dep_ints r, Nat.max_self]
theorem shaped_listI (ns : List Int) : SeqAt.shaped (.list (ns.map PyData.int)) = true := by
  simp only [SeqAt.shaped, PyData.canLay0, can_ints, PyData.depth, dep_ints]
  decide
theorem eqvAll_ints : ∀ ns ms : List Int, PyData.eqvAll (ns.map PyData.int) (ms.map PyData.int) = decide (ns = ms)
  | [], [] => by simp [PyData.eqvAll]
  | [], _ :: _ => by simp [PyData.eqvAll]
  | _ :: _, [] => by simp [PyData.eqvAll]
  | x :: r, y :: q => by
    simp only [List.map_cons, PyData.eqvAll, PyData.eqv, eqvAll_ints r q]
    by_cases h : x = y
    · subst h; simp
    · simp [h]
theorem eqv_listI (ns ms : List Int) : PyData.eqv (.list (ns.map PyData.int)) (.list (ms.map PyData.int)) = decide (ns = ms) := by
  simp only [PyData.eqv, eqvAll_ints]
theorem eqv_pair (a b c d : Int) : PyData.eqv (.tuple [.int a, .int b]) (.tuple [.int c, .int d]) = (a == c && b == d) := by
  simp [PyData.eqv, PyData.eqvAll]
theorem eqv_pairV (a b c d : Int) : PyData.eqv (.tuple [.int a, .int b]) (.tuple [.int c, .int d]) = (decide (V.int a = .int c) && decide (V.int b = .int d)) := by
  simp only [PyData.eqv, PyData.eqvAll, Bool.and_true, V.int.injEq]
  rw [Bool.eq_iff_iff]
  simp
theorem dp_pair {K : PySem.W.Frag} {H : Hp} {p : Addr} {a b : Int} (h : SqT K H p [.int a, .int b]) : Dp K H (.ref p) (.tuple [.int a, .int b]) := .tup h (.cons (.int _) (.cons (.int _) .nil))
theorem shaped_pair (a b : Int) : SeqAt.shaped (.tuple [.int a, .int b]) = true := by
  simp only [SeqAt.shaped, PyData.canLay0, PyData.canLayAll0, PyData.depth, PyData.depthAll]
  rfl
theorem isi {X : Cx} {K : PySem.W.Frag} (e : X.K = K) : CallR X (.builtin "isinstance") (rIsi K) := e ▸ call_isi
theorem dp_nil {K : PySem.W.Frag} {H : Hp} {p : Addr} (h : SqL K H p []) : Dp K H (.ref p) (.list []) := .lst h .nil
theorem eqv_nil : PyData.eqv (.list []) (.list []) = true := by simp [PyData.eqv, PyData.eqvAll]
theorem shaped_nil : SeqAt.shaped (.list []) = true := by
  simp only [SeqAt.shaped, PyData.canLay0, PyData.canLayAll0, PyData.depth, PyData.depthAll]
  rfl
/-- an item of a written list of ints at a drawn place -/
theorem pick {ns : List Int} {lo hi : Int} {K : PySem.W.Frag} {H : Hp} {a : Addr} {xs : List V} {d : Int} {Q : VK} (hm : ∀ n ∈ ns, lo ≤ n ∧ n ≤ hi) (e : SqL K H a xs) (eq : xs = ns.map V.int) (h0 : 0 ≤ d) (h1 : d < (ns.length : Int))
    (h : ∀ n : Int, n ∈ ns → lo ≤ n → n ≤ hi → Q (.int n) H) : rIxL K (.ref a) (.int d) H Q := by
  subst eq
  obtain ⟨j, rfl⟩ : ∃ j : Nat, d = (j : Int) := ⟨d.toNat, by omega⟩
  have hj : j < ns.length := by omega
  have hn : ns[j] ∈ ns := List.getElem_mem hj
  exact ⟨a, _, _, .int ns[j], rfl, rfl, e, atI_nat (by rw [List.getElem?_map, List.getElem?_eq_getElem hj]; rfl), h _ hn (hm _ hn).1 (hm _ hn).2⟩
theorem sgn {d n B : Int} (h0 : 0 ≤ d) (h1 : d < B) (m : n ∈ [(1 : Int), -1]) : -B < d * n ∧ d * n < B := by
  simp only [List.mem_cons, List.not_mem_nil, or_false] at m
  rcases m with rfl | rfl <;> omega
end Rd

/-! ## heaps: what a step leaves -/
def Frm (a : Nat) (H H' : L2.Hp) : Prop := ∀ b o, H b = some o → b ≠ a → H' b = some o
section
open PySem L2
variable {H H' H1 H2 : Hp} {a b p : Nat} {o u : HO}
theorem Frm.get (f : Frm a H H') (h : H b = some o) (n : b ≠ a) : H' b = some o := f b o h n
theorem Sget (f : L2.Same H H') (h : H b = some o) : H' b = some o := f b o h
theorem Frm.free (f : Frm a H H') (n : b ≠ a) (h : H' b = none) : H b = none := by
  cases q : H b with
  | none => rfl
  | some o => rw [f b o q n] at h; cases h
theorem Sfree (f : L2.Same H H') (h : H' b = none) : H b = none := L2.Same.free f h
theorem updFree (h : upd H a o b = none) : H b = none := by
  unfold upd at h
  split at h
  · cases h
  · exact h
theorem updGet' (h : H b = some o) (n : b ≠ a) : upd H a u b = some o := by rw [upd_ne n]; exact h
theorem ne_none (h : H b = none) (h' : H a = some o) : a ≠ b := ne_of_none h' h
theorem ne_none' (h : H a = none) (h' : H b = some o) : a ≠ b := (ne_of_none h' h).symm
theorem updFresh (n : H a = none) (h : H b = some o) : upd H a u b = some o := updGet' h (ne_of_none h n)
theorem updMade {x dx : Nat} {v : HO} (n : H x = none) (m : H dx = none) (h : H b = some o) : upd (upd H dx u) x v b = some o := updGet' (updGet' h (ne_of_none h m)) (ne_of_none h n)
theorem Frm.get' (f : Frm a H H') (n : b ≠ a) (h : H b = some o) : H' b = some o := f b o h n
theorem updGet (n : b ≠ a) (h : H b = some o) : upd H a u b = some o := by rw [upd_ne n]; exact h
end

local macro_rules | `(tactic| walk_at "hp") => `(tactic| first
  | with_reducible assumption
  | with_reducible exact L2.upd_same
  | ((with_reducible apply updFresh); (· with_reducible assumption); (· walk_at "hp"))
  | ((with_reducible apply updMade); (· with_reducible assumption); (· with_reducible assumption); (· walk_at "hp"))
  | ((with_reducible apply updGet); (· walk_at "ne"); (· walk_at "hp"))
  | ((with_reducible apply Sget); (· with_reducible assumption); (· walk_at "hp"))
  | ((with_reducible apply Frm.get'); (· with_reducible assumption); (· walk_at "ne"); (· walk_at "hp"))
  | fail "hp")
local macro_rules | `(tactic| walk_at "ne") => `(tactic| first
  | with_reducible assumption
  | exact Ne.symm (by with_reducible assumption)
  | ((with_reducible apply ne_none); (· with_reducible assumption); (· walk_at "hp"))
  | ((with_reducible apply ne_none'); (· with_reducible assumption); (· walk_at "hp"))
  | ((with_reducible apply L2.ne_of); (· walk_at "hp"); (· walk_at "hp"); (· (intro z; cases z)))
  | fail "ne")
local macro_rules | `(tactic| walk_at "vr") => `(tactic| with_unfolding_all rfl)
local macro_rules | `(tactic| walk_at "hpl") => `(tactic| first
  | with_reducible assumption
  | ((with_reducible apply L2.SqL.of); walk_at "hp"))
local macro_rules | `(tactic| walk_at "hpt") => `(tactic| first
  | with_reducible assumption
  | ((with_reducible apply L2.SqT.of); walk_at "hp"))
local macro_rules | `(tactic| walk_at "hpq") => `(tactic| first
  | with_reducible assumption
  | (apply Or.inl; walk_at "hpl")
  | (apply Or.inr; walk_at "hpt"))
local macro_rules | `(tactic| walk_at "sc") => `(tactic| first
  | with_reducible assumption
  | omega
  | decide
  | ((repeat' split) <;> omega))
local macro_rules | `(tactic| walk_at "scp") => `(tactic| (unfold L2.CPow; omega))
local macro_rules | `(tactic| walk_at "ll") => `(tactic| with_unfolding_all exact Nat.le_of_ble_eq_true rfl)
theorem wm {i j : Int} (hi : -(2 ^ 200) < i ∧ i < 2 ^ 200) (hj : -(2 ^ 200) < j ∧ j < 2 ^ 200) : L2.CMulW i j :=
  L2.wide_mul (a := 200) (b := 200) (by omega) (by omega) (by decide) (by decide) (by decide)
theorem wd {i j : Int} (h : 0 < j) (hj : j < 2 ^ 200) : L2.CDivW i j :=
  L2.wide_div (b := 200) h (by omega) (by decide) (by decide)
local macro_rules | `(tactic| walk_at "scm") => `(tactic| exact wm ⟨by walk_at "sc", by walk_at "sc"⟩ ⟨by walk_at "sc", by walk_at "sc"⟩)
local macro_rules | `(tactic| walk_at "scd") => `(tactic| exact wd (by walk_at "sc") (by walk_at "sc"))
local macro_rules | `(tactic| walk_at "clsv") => `(tactic| first | exact L2.ClsV.ty _ | exact L2.ClsV.own _)
local macro_rules | `(tactic| walk_at "kit") => `(tactic| first | with_reducible exact Rd.kit_int_int | with_reducible exact Rd.kit_int_bool | with_reducible exact Rd.kit_bool_bool | with_reducible exact Rd.kit_str_str | with_reducible exact Rd.kit_bool_int | with_reducible exact Rd.kit_str_int | with_reducible exact Rd.kit_none_int | with_reducible exact Rd.kit_tuple_int | with_reducible exact Rd.kit_list_int | with_reducible exact Rd.kit_dict_int | with_reducible exact Rd.kit_str_bool | with_reducible exact Rd.kit_int_str | with_reducible assumption)
local macro_rules | `(tactic| walk_at "nf") => `(tactic| with_reducible assumption)
local macro_rules | `(tactic| walk_at "tyx") => `(tactic| first | exact L2.TyX.base (L2.TyOf.int _) | exact L2.TyX.base (L2.TyOf.bl _) | exact L2.TyX.base L2.TyOf.non | exact L2.TyX.base (L2.TyOf.str _) | ((with_reducible apply Rd.ty_tup); walk_at "hp") | ((with_reducible apply Rd.ty_lst); walk_at "hp"))
local macro_rules | `(tactic| walk_at "frm") => `(tactic| first | (intro b o hb; walk_at "hp") | (intro b o hb hn; walk_at "hp"))
local macro_rules | `(tactic| walk_at "nn") => `(tactic| first
  | with_reducible assumption
  | exact updFree (by with_reducible assumption)
  | exact updFree (updFree (by with_reducible assumption))
  | exact updFree (updFree (updFree (by with_reducible assumption)))
  | exact updFree (updFree (updFree (updFree (by with_reducible assumption))))
  | exact updFree (updFree (updFree (updFree (updFree (by with_reducible assumption)))))
  | exact updFree (updFree (updFree (updFree (updFree (updFree (by with_reducible assumption))))))
  | exact updFree (updFree (updFree (updFree (updFree (updFree (updFree (by with_reducible assumption)))))))
  | exact updFree (updFree (updFree (updFree (updFree (updFree (updFree (updFree (by with_reducible assumption))))))))
  | exact updFree (updFree (updFree (updFree (updFree (updFree (updFree (updFree (updFree (by with_reducible assumption)))))))))
  | exact updFree (updFree (updFree (updFree (updFree (updFree (updFree (updFree (updFree (updFree (by with_reducible assumption))))))))))
  | exact updFree (updFree (updFree (updFree (updFree (updFree (updFree (updFree (updFree (updFree (updFree (by with_reducible assumption)))))))))))
  | exact updFree (updFree (updFree (updFree (updFree (updFree (updFree (updFree (updFree (updFree (updFree (updFree (by with_reducible assumption))))))))))))
  | exact updFree (updFree (updFree (updFree (updFree (updFree (updFree (updFree (updFree (updFree (updFree (updFree (updFree (by with_reducible assumption)))))))))))))
  | exact updFree (updFree (updFree (updFree (updFree (updFree (updFree (updFree (updFree (updFree (updFree (updFree (updFree (updFree (by with_reducible assumption))))))))))))))
  | exact updFree (updFree (updFree (updFree (updFree (updFree (updFree (updFree (updFree (updFree (updFree (updFree (updFree (updFree (updFree (by with_reducible assumption)))))))))))))))
  | exact updFree (updFree (updFree (updFree (updFree (updFree (updFree (updFree (updFree (updFree (updFree (updFree (updFree (updFree (updFree (updFree (by with_reducible assumption))))))))))))))))
  | exact updFree (updFree (updFree (updFree (updFree (updFree (updFree (updFree (updFree (updFree (updFree (updFree (updFree (updFree (updFree (updFree (updFree (by with_reducible assumption)))))))))))))))))
  | exact updFree (updFree (updFree (updFree (updFree (updFree (updFree (updFree (updFree (updFree (updFree (updFree (updFree (updFree (updFree (updFree (updFree (updFree (by with_reducible assumption))))))))))))))))))
  | ((with_reducible apply Sfree); (· with_reducible assumption); (· walk_at "nn")))
local macro_rules | `(tactic| walk_at "em") => `(tactic| first | rfl | (simp only [Int.emod_add_emod, Int.emod_sub_emod, Int.sub_emod_emod, Int.emod_emod]; first | done | rfl | (congr 1; omega)))
local macro_rules | `(tactic| walk_at "dp") => `(tactic| first | ((with_reducible apply Rd.dp_nil); walk_at "hpl") | ((with_reducible apply Rd.dp_listI); walk_at "hpl") | ((with_reducible apply Rd.dp_pair); walk_at "hpt") | ((with_reducible apply L2.Dp.lst); (· walk_at "hpl"); (· walk_at "dpa")) | ((with_reducible apply L2.Dp.tup); (· walk_at "hpt"); (· walk_at "dpa")))
local macro_rules | `(tactic| walk_at "dpt") => `(tactic| first | ((with_reducible apply Rd.dp_pair); (· walk_at "hpt")) | ((with_reducible apply L2.Dp.tup); (· walk_at "hpt"); (· walk_at "dpa")) | fail "dpt")
local macro_rules | `(tactic| walk_at "dpa") => `(tactic| first | with_reducible exact L2.DpAll.nil | ((with_reducible apply L2.DpAll.cons); (· walk_at "dp1"); (· walk_at "dpa")))
local macro_rules | `(tactic| walk_at "dp1") => `(tactic| first | with_reducible exact L2.Dp.int _ | with_reducible exact L2.Dp.bl _ | with_reducible exact L2.Dp.str _ | with_reducible exact L2.Dp.non | walk_at "dp")
local macro_rules | `(tactic| walk_at "shp") => `(tactic| first | with_reducible exact Rd.shaped_pair _ _ | with_reducible exact Rd.shaped_listI _ | with_reducible exact Rd.shaped_nil | (simp only [PySem.SeqAt.shaped, PySem.PyData.canLay0, PySem.PyData.canLayAll0, PySem.PyData.depth, PySem.PyData.depthAll]; rfl))
local macro_rules | `(tactic| walk_at "ty0") => `(tactic| exact Own.ty_int)
local macro_rules | `(tactic| walk_at "sfl") => `(tactic| first | with_unfolding_all exact Nat.le_of_ble_eq_true rfl | ((refine Rd.lput ?_); (repeat refine Rd.lputs ?_); with_unfolding_all exact Nat.le_of_ble_eq_true rfl))
local macro_rules | `(tactic| walk_at "ixn") => `(tactic| first | with_unfolding_all rfl | decide)
local macro_rules | `(tactic| walk_at "bT") => `(tactic| first | (simp only [PySem.PyData.eqv, PySem.PyData.eqvAll, beq_self_eq_true, Bool.and_self]; done) | (exact decide_eq_true rfl) | (simp only [L2.V.int.injEq, L2.V.bl.injEq, decide_eq_true_eq]; omega) | with_unfolding_all rfl | with_reducible assumption | exact decide_eq_true (by walk_at "sc"))
local macro_rules | `(tactic| walk_at "bF") => `(tactic| first | (simp only [← Int.sub_emod, decide_true, Bool.not_true]; done) | (simp only [L2.V.int.injEq, Int.emod_eq_emod_iff_emod_sub_eq_zero, eq_self, decide_true, Bool.true_and, Bool.not_true]; done) | (simp only [Rd.eqv_pairV, Rd.eqv_listI, Rd.eqv_nil, Bool.and_self, Bool.not_true, decide_true]; done) | with_unfolding_all rfl | with_reducible assumption | exact decide_eq_false (by walk_at "sc") | (simp only [L2.V.int.injEq, L2.V.bl.injEq, decide_eq_false_iff_not, Bool.not_eq_false', Bool.not_eq_eq_eq_not, Bool.not_false, decide_eq_true_eq]; omega) | (simp only [L2.V.int.injEq, Bool.and_eq_false_iff, decide_eq_false_iff_not]; first | omega | exact Or.inl (by omega)))

/-! ## the law's source of numbers: two ints in a list -/
section
open PySem L2
/-- what stands in the list -/
def SrcO (o : HO) : Prop := ∃ x y : Int, o = .lst [.int x, .int y] ∧ 0 ≤ x ∧ 0 ≤ y ∧ y < 2147483647
/-- a draw -/
abbrev spDraw : Sp := fun vs H Q _ => ∃ (a : Addr) (o : HO) (m : Int), vs = [.ref a, .int m] ∧ H a = some o ∧ SrcO o ∧ 0 < m ∧ m < 2 ^ 190 ∧
  ∀ (d : Int) (o' : HO), 0 ≤ d → d < m → SrcO o' → Q (.int d) (upd H a o')
/-- a fresh source -/
abbrev spSource (K : PySem.W.Frag) : Sp := fun vs H Q _ => ∃ (a : Addr) (ns : List Int) (t : Int), vs = [.ref a, .int t] ∧ SqL K H a (ns.map V.int) ∧ 0 ≤ t ∧ t < 1000000 ∧
  ∀ (p : Addr) (o : HO), H p = none → SrcO o → Q (.ref p) (upd H p o)
theorem sq_nonneg {y : Int} (h : 0 ≤ y) : 0 ≤ y * y := Int.mul_nonneg h h
theorem atI_map {ns : List Int} {t : Int} (h0 : 0 ≤ t) (h : t < (ns.length : Int)) : ∃ z : Int, atI (ns.map V.int) t = some (.int z) := by
  obtain ⟨j, rfl⟩ : ∃ j : Nat, t = (j : Int) := ⟨t.toNat, by omega⟩
  have hj : j < ns.length := by omega
  exact ⟨ns[j], atI_nat (by rw [List.getElem?_map, List.getElem?_eq_getElem hj]; rfl)⟩
/-- an item of a list of ints at a drawn place: what all its items keep -/
theorem pickI {ns : List Int} {P : Int → Prop} (hP : ∀ n ∈ ns, P n) {d : Int} (h0 : 0 ≤ d) (h : d < (ns.length : Int)) : ∃ n : Int, atI (ns.map V.int) d = some (.int n) ∧ P n := by
  obtain ⟨j, rfl⟩ : ∃ j : Nat, d = (j : Int) := ⟨d.toNat, by omega⟩
  have hj : j < ns.length := by omega
  exact ⟨ns[j], atI_nat (by rw [List.getElem?_map, List.getElem?_eq_getElem hj]; rfl), hP _ (List.getElem_mem hj)⟩
end

namespace Pk05
open PySem L2
def top (i : Nat) : Stmt := PySem.Challenge.pw_ringindexes_k05_counters_stepped.main.body.getD i (.Pass ⟨0, 0, 0, 0⟩)
abbrev s_is_whole : Stmt := top 4
abbrev s_is_whole_from : Stmt := top 5
abbrev s_check_whole : Stmt := top 9
abbrev s_Counteru__initu_ : Stmt := inClass (top 8) 0
abbrev s_Counter_value : Stmt := inClass (top 8) 1
abbrev s_Counter_change : Stmt := inClass (top 8) 3
abbrev s_Counteru__addu_ : Stmt := inClass (top 8) 4
abbrev s_Counteru__raddu_ : Stmt := inClass (top 8) 5
abbrev s_Counteru__subu_ : Stmt := inClass (top 8) 6
abbrev s_Counteru__iaddu_ : Stmt := inClass (top 8) 7
abbrev s_Counteru__isubu_ : Stmt := inClass (top 8) 8
abbrev s_check_divisor : Stmt := top 10
abbrev s_Counteru__floordivu_ : Stmt := inClass (top 8) 9
abbrev s_Counteru__modu_ : Stmt := inClass (top 8) 10
abbrev s_Counteru__andu_ : Stmt := inClass (top 8) 11
abbrev s_Counteru__equ_ : Stmt := inClass (top 8) 12
abbrev s_l_source : Stmt := top 12
abbrev s_l_draw : Stmt := top 13
abbrev s_l_number : Stmt := top 15
abbrev s_l_is : Stmt := top 16
abbrev s_l_stepped : Stmt := top 17
abbrev s_l_made_of : Stmt := top 18
abbrev s_law : Stmt := top 19
theorem q_value_change : ¬ (("_value" : Str) = "change") := by decide +kernel
theorem q_value_modulus : ¬ (("_value" : Str) = "modulus") := by decide +kernel
theorem q_change_value : ¬ (("change" : Str) = "_value") := by decide +kernel
theorem q_change_modulus : ¬ (("change" : Str) = "modulus") := by decide +kernel
theorem q_modulus_value : ¬ (("modulus" : Str) = "_value") := by decide +kernel
theorem q_modulus_change : ¬ (("modulus" : Str) = "change") := by decide +kernel
local macro_rules | `(tactic| walk_at "lk") => `(tactic| first | with_unfolding_all rfl | (simp only [List.lookup, L2.putF, beq_iff_eq, beq_self_eq_true, q_value_change, (beq_eq_false_iff_ne.mpr q_value_change), q_value_modulus, (beq_eq_false_iff_ne.mpr q_value_modulus), q_change_value, (beq_eq_false_iff_ne.mpr q_change_value), q_change_modulus, (beq_eq_false_iff_ne.mpr q_change_modulus), q_modulus_value, (beq_eq_false_iff_ne.mpr q_modulus_value), q_modulus_change, (beq_eq_false_iff_ne.mpr q_modulus_change)]; first | done | rfl))
structure Adr where
  f_is_whole : Addr
  d_is_whole : FuncData
  f_is_whole_from : Addr
  d_is_whole_from : FuncData
  f_check_whole : Addr
  d_check_whole : FuncData
  f_Counteru__initu_ : Addr
  d_Counteru__initu_ : FuncData
  f_Counter_value : Addr
  d_Counter_value : FuncData
  f_Counter_change : Addr
  d_Counter_change : FuncData
  f_Counteru__addu_ : Addr
  d_Counteru__addu_ : FuncData
  f_Counteru__raddu_ : Addr
  d_Counteru__raddu_ : FuncData
  f_Counteru__subu_ : Addr
  d_Counteru__subu_ : FuncData
  f_Counteru__iaddu_ : Addr
  d_Counteru__iaddu_ : FuncData
  f_Counteru__isubu_ : Addr
  d_Counteru__isubu_ : FuncData
  f_check_divisor : Addr
  d_check_divisor : FuncData
  f_Counteru__floordivu_ : Addr
  d_Counteru__floordivu_ : FuncData
  f_Counteru__modu_ : Addr
  d_Counteru__modu_ : FuncData
  f_Counteru__andu_ : Addr
  d_Counteru__andu_ : FuncData
  f_Counteru__equ_ : Addr
  d_Counteru__equ_ : FuncData
  f_l_source : Addr
  d_l_source : FuncData
  f_l_draw : Addr
  d_l_draw : FuncData
  f_l_number : Addr
  d_l_number : FuncData
  f_l_is : Addr
  d_l_is : FuncData
  f_l_stepped : Addr
  d_l_stepped : FuncData
  f_l_made_of : Addr
  d_l_made_of : FuncData
  f_law : Addr
  d_law : FuncData
  c_Counter : Addr
  p_Counter_value : Addr
  t_GREATEST_MODULUS : Tok
structure IsC (K : PySem.W.Frag) (C : Addr) : Prop where
  ha : PySem.W.findIn K (.ref C) "__class__" = some (some (.builtin "object.__class__"))
  hn : PySem.W.specialIn K (.builtin "object.__class__") "__get__" = some (some (.builtin "getset_descriptor.__get__"))
  htk : PySem.W.takesIn K (.builtin "object.__class__") = some true
  hm : PySem.W.mroIn K C (.type "object") = some true
theorem ty_own {K : PySem.W.Frag} {H : Hp} {a C dx : Addr} {fs : List (Str × V)} (e : H a = some (.ins C dx fs)) (k : Cls K C) (i : IsC K C) : TyX K H (.ref a) (.ref C) := .base (.ins e k i.ha i.hn i.htk i.hm)
local macro_rules | `(tactic| walk_at "tyx") => `(tactic| ((with_reducible apply ty_own); (· walk_at "hp"); (· with_reducible assumption); (· with_reducible assumption)))
structure Txt (K : PySem.W.Frag) (mg : Str → Option Value) (A : Adr) : Prop where
  n_abs : mg "abs" = none
  n_bool : mg "bool" = none
  n_int : mg "int" = none
  n_isinstance : mg "isinstance" = none
  n_len : mg "len" = none
  n_max : mg "max" = none
  n_min : mg "min" = none
  n_range : mg "range" = none
  m_GREATEST_MODULUS : mg "GREATEST_MODULUS" = some (.int (10000000000000000000000000000000000000000) A.t_GREATEST_MODULUS)
  m_Counter : mg "Counter" = some (.ref A.c_Counter)
  k_Counter : Cls K A.c_Counter
  n_Counter_modulus : NoAttr K A.c_Counter "modulus"
  n_Counter_value : NoAttr K A.c_Counter "_value"
  K_Counter : Mk K A.c_Counter A.f_Counteru__initu_
  i_Counter : IsC K A.c_Counter
  kt_Counter_Counter : PySem.W.kitOne K (.ref A.c_Counter) (.ref A.c_Counter) = some true
  kt_int_Counter : PySem.W.kitOne K (.type "int") (.ref A.c_Counter) = some false
  m_is_whole : mg "is_whole" = some (.ref A.f_is_whole)
  F_is_whole : Fun K "is_whole" "is_whole" s_is_whole A.f_is_whole A.d_is_whole
  b_is_whole : Binds K A.d_is_whole ["thing"] []
  m_is_whole_from : mg "is_whole_from" = some (.ref A.f_is_whole_from)
  F_is_whole_from : Fun K "is_whole_from" "is_whole_from" s_is_whole_from A.f_is_whole_from A.d_is_whole_from
  b_is_whole_from : Binds K A.d_is_whole_from ["thing", "low", "high"] []
  m_check_whole : mg "check_whole" = some (.ref A.f_check_whole)
  F_check_whole : Fun K "check_whole" "check_whole" s_check_whole A.f_check_whole A.d_check_whole
  b_check_whole : Binds K A.d_check_whole ["thing"] []
  F_Counteru__initu_ : FunD K "__init__" "Counter.__init__" (defArgs s_Counteru__initu_) (defBody s_Counteru__initu_) (defScope s_Counteru__initu_) [.int 0] [] A.f_Counteru__initu_ A.d_Counteru__initu_
  b_Counteru__initu_ : Binds K A.d_Counteru__initu_ ["self", "modulus", "value"] []
  e_Counteru__initu_1 : ∃ ds, Vals [.int 0] ds ∧ Binds K A.d_Counteru__initu_ ["self", "modulus", "value"] ds
  F_Counter_value : Fun K "value" "Counter.value" s_Counter_value A.f_Counter_value A.d_Counter_value
  b_Counter_value : Binds K A.d_Counter_value ["self"] []
  M_Counter_change : Meth K A.c_Counter "change" A.f_Counter_change
  F_Counter_change : Fun K "change" "Counter.change" s_Counter_change A.f_Counter_change A.d_Counter_change
  b_Counter_change : Binds K A.d_Counter_change ["self", "value"] []
  F_Counteru__addu_ : Fun K "__add__" "Counter.__add__" s_Counteru__addu_ A.f_Counteru__addu_ A.d_Counteru__addu_
  b_Counteru__addu_ : Binds K A.d_Counteru__addu_ ["self", "other"] []
  F_Counteru__raddu_ : Fun K "__radd__" "Counter.__radd__" s_Counteru__raddu_ A.f_Counteru__raddu_ A.d_Counteru__raddu_
  b_Counteru__raddu_ : Binds K A.d_Counteru__raddu_ ["self", "other"] []
  F_Counteru__subu_ : Fun K "__sub__" "Counter.__sub__" s_Counteru__subu_ A.f_Counteru__subu_ A.d_Counteru__subu_
  b_Counteru__subu_ : Binds K A.d_Counteru__subu_ ["self", "other"] []
  F_Counteru__iaddu_ : Fun K "__iadd__" "Counter.__iadd__" s_Counteru__iaddu_ A.f_Counteru__iaddu_ A.d_Counteru__iaddu_
  b_Counteru__iaddu_ : Binds K A.d_Counteru__iaddu_ ["self", "other"] []
  F_Counteru__isubu_ : Fun K "__isub__" "Counter.__isub__" s_Counteru__isubu_ A.f_Counteru__isubu_ A.d_Counteru__isubu_
  b_Counteru__isubu_ : Binds K A.d_Counteru__isubu_ ["self", "other"] []
  m_check_divisor : mg "check_divisor" = some (.ref A.f_check_divisor)
  F_check_divisor : Fun K "check_divisor" "check_divisor" s_check_divisor A.f_check_divisor A.d_check_divisor
  b_check_divisor : Binds K A.d_check_divisor ["thing"] []
  F_Counteru__floordivu_ : Fun K "__floordiv__" "Counter.__floordiv__" s_Counteru__floordivu_ A.f_Counteru__floordivu_ A.d_Counteru__floordivu_
  b_Counteru__floordivu_ : Binds K A.d_Counteru__floordivu_ ["self", "other"] []
  F_Counteru__modu_ : Fun K "__mod__" "Counter.__mod__" s_Counteru__modu_ A.f_Counteru__modu_ A.d_Counteru__modu_
  b_Counteru__modu_ : Binds K A.d_Counteru__modu_ ["self", "other"] []
  F_Counteru__andu_ : Fun K "__and__" "Counter.__and__" s_Counteru__andu_ A.f_Counteru__andu_ A.d_Counteru__andu_
  b_Counteru__andu_ : Binds K A.d_Counteru__andu_ ["self", "other"] []
  F_Counteru__equ_ : Fun K "__eq__" "Counter.__eq__" s_Counteru__equ_ A.f_Counteru__equ_ A.d_Counteru__equ_
  b_Counteru__equ_ : Binds K A.d_Counteru__equ_ ["self", "other"] []
  m_l_source : mg "_law_source" = some (.ref A.f_l_source)
  F_l_source : Fun K "_law_source" "_law_source" s_l_source A.f_l_source A.d_l_source
  b_l_source : Binds K A.d_l_source ["_law_script", "_law_turn"] []
  m_l_draw : mg "_law_draw" = some (.ref A.f_l_draw)
  F_l_draw : Fun K "_law_draw" "_law_draw" s_l_draw A.f_l_draw A.d_l_draw
  b_l_draw : Binds K A.d_l_draw ["_law_source_here", "_law_amount"] []
  m_l_number : mg "_law_number" = some (.ref A.f_l_number)
  F_l_number : Fun K "_law_number" "_law_number" s_l_number A.f_l_number A.d_l_number
  b_l_number : Binds K A.d_l_number ["_law_source_here"] []
  m_l_is : mg "_law_is" = some (.ref A.f_l_is)
  F_l_is : Fun K "_law_is" "_law_is" s_l_is A.f_l_is A.d_l_is
  b_l_is : Binds K A.d_l_is ["_law_counter", "_law_modulus", "_law_value"] []
  m_l_stepped : mg "_law_stepped" = some (.ref A.f_l_stepped)
  F_l_stepped : Fun K "_law_stepped" "_law_stepped" s_l_stepped A.f_l_stepped A.d_l_stepped
  b_l_stepped : Binds K A.d_l_stepped ["_law_modulus", "_law_value", "_law_step"] []
  m_l_made_of : mg "_law_made_of" = some (.ref A.f_l_made_of)
  F_l_made_of : Fun K "_law_made_of" "_law_made_of" s_l_made_of A.f_l_made_of A.d_l_made_of
  b_l_made_of : Binds K A.d_l_made_of ["_law_modulus", "_law_value", "_law_divisor", "_law_mask"] []
  m_law : mg "law" = some (.ref A.f_law)
  F_law : Fun K "law" "law" s_law A.f_law A.d_law
  b_law : Binds K A.d_law ["_law_script"] []
  R_Counter_value : PropOf K A.c_Counter "value" A.p_Counter_value A.f_Counter_value
  O_Counteru__addu__S : Own.Bin K A.c_Counter A.f_Counteru__addu_ .Add
  O_Counteru__addu__T : Own.BinT K A.c_Counter A.f_Counteru__addu_ .Add "int"
  O_Counteru__raddu__R : Own.BinR K A.c_Counter A.f_Counteru__raddu_ .Add
  O_Counteru__subu__S : Own.Bin K A.c_Counter A.f_Counteru__subu_ .Sub
  O_Counteru__subu__T : Own.BinT K A.c_Counter A.f_Counteru__subu_ .Sub "int"
  O_Counteru__iaddu__I : PySem.W.selfFirst K A.c_Counter = true ∧ Own.Sp1 K A.c_Counter (dunderI (Operator.info .Add).2) A.f_Counteru__iaddu_
  O_Counteru__isubu__I : PySem.W.selfFirst K A.c_Counter = true ∧ Own.Sp1 K A.c_Counter (dunderI (Operator.info .Sub).2) A.f_Counteru__isubu_
  O_Counteru__floordivu__S : Own.Bin K A.c_Counter A.f_Counteru__floordivu_ .FloorDiv
  O_Counteru__floordivu__T : Own.BinT K A.c_Counter A.f_Counteru__floordivu_ .FloorDiv "int"
  O_Counteru__modu__S : Own.Bin K A.c_Counter A.f_Counteru__modu_ .Mod
  O_Counteru__modu__T : Own.BinT K A.c_Counter A.f_Counteru__modu_ .Mod "int"
  O_Counteru__andu__S : Own.Bin K A.c_Counter A.f_Counteru__andu_ .BitAnd
  O_Counteru__andu__T : Own.BinT K A.c_Counter A.f_Counteru__andu_ .BitAnd "int"
  O_Counteru__equ__1 : Own.Sp1 K A.c_Counter "__eq__" A.f_Counteru__equ_
  O_Counteru__equ__N : Own.Ne K A.c_Counter A.f_Counteru__equ_
  nf_Counter_Counter : PySem.W.notFirst K A.c_Counter (.ref A.c_Counter) = true
  nf_int_Counter : PySem.W.notFirst K A.c_Counter (.type "int") = true

/-- a counter's fields -/
def fC (m v : Int) : List (Str × V) := [("modulus", .int m), ("_value", .int v)]
theorem fC_m (m v : Int) : (fC m v).lookup ("modulus" : Str) = some (V.int m) := by unfold fC; walk_at "lk"
theorem fC_v (m v : Int) : (fC m v).lookup ("_value" : Str) = some (V.int v) := by unfold fC; walk_at "lk"
theorem fC_c (m v : Int) : (fC m v).lookup ("change" : Str) = none := by
  unfold fC
  simp only [List.lookup, beq_eq_false_iff_ne.mpr q_change_modulus, beq_eq_false_iff_ne.mpr q_change_value]
theorem fC_put (m v : Int) : putF "_value" (.int v) (putF "modulus" (.int m) []) = fC m v := by
  show (if ("modulus" : Str) = "_value" then _ else (("modulus" : Str), V.int m) :: putF "_value" (V.int v) []) = _
  rw [if_neg q_modulus_value] <;> rfl
theorem fC_set (m v w : Int) : putF "_value" (.int w) (fC m v) = fC m w := by
  show (if ("modulus" : Str) = "_value" then _ else (("modulus" : Str), V.int m) :: (if ("_value" : Str) = "_value" then _ else _)) = _
  rw [if_neg q_modulus_value, if_pos rfl] <;> rfl
local macro_rules | `(tactic| walk_at "lk") => `(tactic| first | exact fC_m _ _ | exact fC_v _ _ | exact fC_c _ _)
/-- what may stand beside a counter: one of the same modulus, or an int -/
def ArgI (A : Adr) (H : Hp) (y : V) : Prop := ∃ i : Int, y = .int i

section
variable {P : Program} {w : World} {K : PySem.W.Frag} {mg : Str → Option Value} {base : Heap} {A : Adr}
/-! is_whole -/
theorem sc_is_whole : FnScope ["thing"] ["thing"] (defScope s_is_whole) := ⟨rfl, rfl, rfl, by decide +kernel, rfl, by decide +kernel, by decide +kernel⟩
abbrev sp_is_whole (K : PySem.W.Frag) (A : Adr) : Sp := fun vs H Q _ => ∃ i : Int, vs = [.int i] ∧ Q (.bl true) H
theorem ok_is_whole (T : Txt K mg A) : FnOk P w K mg base CX0 1 A.f_is_whole A.d_is_whole ["thing"] (sp_is_whole K A) := by
  refine T.F_is_whole.ok sc_is_whole (fun vs H Q E h => ?_) (fun cdv Ar outer s H vs Q E hr h => ?_)
  · obtain ⟨i, rfl, k⟩ := h
    rfl
  · obtain ⟨i, rfl, k⟩ := h
    have hu := hu_of hr
    have t_i_Counter := T.i_Counter
    have t_kt_Counter_Counter := T.kt_Counter_Counter
    have t_kt_int_Counter := T.kt_int_Counter
    have t_nf_Counter_Counter := T.nf_Counter_Counter
    have t_nf_int_Counter := T.nf_int_Counter
    have t_k_Counter := T.k_Counter
    refine ⟨_, (pss_one (ps_ret (pe_and (pe_callB (Rd.isi (K := K) rfl) (by rfl) T.n_isinstance (by decide +kernel) (pa_cons (pv 0) (pa_cons (pe_bltn (v := .ty "int") (u := .type "int") (by rfl) T.n_int (by decide +kernel) rfl) pa_nil))) (pe_one (pe_not (pe_callB (Rd.isi (K := K) rfl) (by rfl) T.n_isinstance (by decide +kernel) (pa_cons (pv 0) (pa_cons (pe_bltn (v := .ty "bool") (u := .type "bool") (by rfl) T.n_bool (by decide +kernel) rfl) pa_nil)))))))), ?_⟩
    try dsimp only [L2.cxOf, L2.Cx.nox, L2.Cx.wish]
    with_reducible refine Rd.ret (Rd.andV (Rd.cB (Rd.cons (Rd.var (by walk_at "vr") (Rd.cons (Rd.c (Rd.nil ?_)))))))
    refine ⟨_, _, _, _, _, rfl, (by walk_at "clsv"), (by walk_at "tyx"), (by walk_at "kit"), ?_⟩
    with_reducible refine Rd.bl (Rd.iteT (by walk_at "bT") (Rd.notV (Rd.cB (Rd.cons (Rd.var (by walk_at "vr") (Rd.cons (Rd.c (Rd.nil ?_))))))))
    refine ⟨_, _, _, _, _, rfl, (by walk_at "clsv"), (by walk_at "tyx"), (by walk_at "kit"), ?_⟩
    with_reducible refine Rd.bl ?_
    exact k
/-! is_whole_from -/
theorem sc_is_whole_from : FnScope ["thing", "low", "high"] ["thing", "low", "high"] (defScope s_is_whole_from) := ⟨rfl, rfl, rfl, by decide +kernel, rfl, by decide +kernel, by decide +kernel⟩
abbrev sp_is_whole_from (K : PySem.W.Frag) (A : Adr) : Sp := fun vs H Q _ => ∃ i lo hi : Int, vs = [.int i, .int lo, .int hi] ∧ lo ≤ i ∧ i ≤ hi ∧ Q (.bl true) H
theorem ok_is_whole_from (T : Txt K mg A) : FnOk P w K mg base CX0 2 A.f_is_whole_from A.d_is_whole_from ["thing", "low", "high"] (sp_is_whole_from K A) := by
  refine T.F_is_whole_from.ok sc_is_whole_from (fun vs H Q E h => ?_) (fun cdv Ar outer s H vs Q E hr h => ?_)
  · obtain ⟨i, lo, hi, rfl, hlo, hhi, k⟩ := h
    rfl
  · obtain ⟨i, lo, hi, rfl, hlo, hhi, k⟩ := h
    have hu := hu_of hr
    have t_i_Counter := T.i_Counter
    have t_kt_Counter_Counter := T.kt_Counter_Counter
    have t_kt_int_Counter := T.kt_int_Counter
    have t_nf_Counter_Counter := T.nf_Counter_Counter
    have t_nf_int_Counter := T.nf_int_Counter
    have t_k_Counter := T.k_Counter
    refine ⟨_, (pss_one (ps_ret (pe_and (pe_call (ok_is_whole T) (hr.mono (by decide)) (by rfl) T.m_is_whole T.F_is_whole.kp T.b_is_whole .nil pass0 (pa_cons (pv 0) pa_nil)) (pe_one (pe_chain op_le op_le (pv 1) (pv 0) (pv 2)))))), ?_⟩
    try dsimp only [L2.cxOf, L2.Cx.nox, L2.Cx.wish]
    with_reducible refine Rd.ret (Rd.andV (Rd.call (Rd.cons (Rd.var (by walk_at "vr") (Rd.nil ?_)))))
    refine ⟨_, rfl, ?_⟩
    with_reducible refine Rd.bl (Rd.iteT (by walk_at "bT") (Rd.chain (Rd.var (by walk_at "vr") (Rd.var (by walk_at "vr") (Rd.i0 (Rd.bl (Rd.iteT (by walk_at "bT") (Rd.var (by walk_at "vr") (Rd.i0 ?_)))))))))
    rw [decide_eq_true hhi]
    exact k
/-! check_whole -/
theorem sc_check_whole : FnScope ["thing"] ["thing"] (defScope s_check_whole) := ⟨rfl, rfl, rfl, by decide +kernel, rfl, by decide +kernel, by decide +kernel⟩
abbrev sp_check_whole (K : PySem.W.Frag) (A : Adr) : Sp := fun vs H Q _ => ∃ i : Int, vs = [.int i] ∧ Q .non H
theorem ok_check_whole (T : Txt K mg A) : FnOk P w K mg base CX0 2 A.f_check_whole A.d_check_whole ["thing"] (sp_check_whole K A) := by
  refine T.F_check_whole.ok sc_check_whole (fun vs H Q E h => ?_) (fun cdv Ar outer s H vs Q E hr h => ?_)
  · obtain ⟨i, rfl, k⟩ := h
    rfl
  · obtain ⟨i, rfl, k⟩ := h
    have hu := hu_of hr
    have t_i_Counter := T.i_Counter
    have t_kt_Counter_Counter := T.kt_Counter_Counter
    have t_kt_int_Counter := T.kt_int_Counter
    have t_nf_Counter_Counter := T.nf_Counter_Counter
    have t_nf_int_Counter := T.nf_int_Counter
    have t_k_Counter := T.k_Counter
    refine ⟨_, (pss_one (ps_if (pt_not (pt_val (pe_call (ok_is_whole T) (hr.mono (by decide)) (by rfl) T.m_is_whole T.F_is_whole.kp T.b_is_whole .nil pass0 (pa_cons (pv 0) pa_nil)))) (pss_one ps_never) pss_nil)), ?_⟩
    try dsimp only [L2.cxOf, L2.Cx.nox, L2.Cx.wish]
    with_reducible refine Rd.ifS (Rd.not (Rd.tb (Rd.call (Rd.cons (Rd.var (by walk_at "vr") (Rd.nil ?_))))))
    refine ⟨_, rfl, ?_⟩
    with_reducible refine Rd.bl (Rd.iteF (by walk_at "bF") (Rd.next ?_))
    exact k
/-! Counter.__init__ -/
theorem sc_Counteru__initu_ : FnScope ["self", "modulus", "value"] ["self", "modulus", "value"] (defScope s_Counteru__initu_) := ⟨rfl, rfl, rfl, by decide +kernel, rfl, by decide +kernel, by decide +kernel⟩
abbrev sp_Counteru__initu_ (K : PySem.W.Frag) (A : Adr) : Sp := fun vs H Q _ => ∃ (p dx : Addr) (m v : Int), vs = [.ref p, .int m, .int v] ∧ H p = some (.ins A.c_Counter dx []) ∧ 1 ≤ m ∧ m ≤ 10000000000000000000000000000000000000000 ∧ Q .non (upd H p (.ins A.c_Counter dx (fC m (v % m))))
theorem ok_Counteru__initu_ (T : Txt K mg A) : FnOk P w K mg base CX0 3 A.f_Counteru__initu_ A.d_Counteru__initu_ ["self", "modulus", "value"] (sp_Counteru__initu_ K A) := by
  refine T.F_Counteru__initu_.ok sc_Counteru__initu_ (fun vs H Q E h => ?_) (fun cdv Ar outer s H vs Q E hr h => ?_)
  · obtain ⟨p, dx, m, v, rfl, hp, h1, h2, k⟩ := h
    rfl
  · obtain ⟨p, dx, m, v, rfl, hp, h1, h2, k⟩ := h
    have hu := hu_of hr
    have t_i_Counter := T.i_Counter
    have t_kt_Counter_Counter := T.kt_Counter_Counter
    have t_kt_int_Counter := T.kt_int_Counter
    have t_nf_Counter_Counter := T.nf_Counter_Counter
    have t_nf_int_Counter := T.nf_int_Counter
    have t_k_Counter := T.k_Counter
    refine ⟨_, (pss_cons (ps_if (pt_not (pt_val (pe_call (ok_is_whole_from T) (hr.mono (by decide)) (by rfl) T.m_is_whole_from T.F_is_whole_from.kp T.b_is_whole_from .nil pass0 (pa_cons (pv 1) (pa_cons pe_int (pa_cons (pe_glob (v := .int (10000000000000000000000000000000000000000)) rfl T.m_GREATEST_MODULUS ⟨_, rfl⟩) pa_nil)))))) (pss_one ps_never) pss_nil)
      (pss_cons (ps_expr (pe_call (ok_check_whole T) (hr.mono (by decide)) (by rfl) T.m_check_whole T.F_check_whole.kp T.b_check_whole .nil pass0 (pa_cons (pv 2) pa_nil)))
      (pss_cons (ps_fld (pv 0) (pv 1) rfl)
      (pss_one (ps_fld (pv 0) (pe_op op_mod (pv 2) (pv 1)) rfl))))), ?_⟩
    try dsimp only [L2.cxOf, L2.Cx.nox, L2.Cx.wish]
    with_reducible refine Rd.seq (Rd.ifS (Rd.not (Rd.tb (Rd.call (Rd.cons (Rd.var (by walk_at "vr") (Rd.cons (Rd.c (Rd.cons (Rd.c (Rd.nil ?_)))))))))))
    refine ⟨_, _, _, rfl, (by walk_at "sc"), (by walk_at "sc"), ?_⟩
    with_reducible refine Rd.bl (Rd.iteF (by walk_at "bF") (Rd.next (Rd.seq (Rd.drop (Rd.call (Rd.cons (Rd.var (by walk_at "vr") (Rd.nil ?_))))))))
    refine ⟨_, rfl, ?_⟩
    with_reducible refine Rd.seq (Rd.sfld (Rd.var (by walk_at "vr") (Rd.var (by walk_at "vr") (⟨_, _, _, _, rfl, (by walk_at "hp"), T.k_Counter, T.n_Counter_modulus, (by walk_at "sfl"), (Rd.sfld (Rd.op (Rd.var (by walk_at "vr") (Rd.var (by walk_at "vr") (Rd.iC (by walk_at "sc") (Rd.var (by walk_at "vr") (⟨_, _, _, _, rfl, (by walk_at "hp"), T.k_Counter, T.n_Counter_value, (by walk_at "sfl"), ?_⟩)))))))⟩))))
    rw [L2.upd_upd, fC_put]
    exact k
/-! Counter.value -/
theorem sc_Counter_value : FnScope ["self"] ["self"] (defScope s_Counter_value) := ⟨rfl, rfl, rfl, by decide +kernel, rfl, by decide +kernel, by decide +kernel⟩
abbrev sp_Counter_value (K : PySem.W.Frag) (A : Adr) : Sp := fun vs H Q _ => ∃ (p dx : Addr) (m v : Int), vs = [.ref p] ∧ H p = some (.ins A.c_Counter dx (fC m v)) ∧ Q (.int v) H
theorem ok_Counter_value (T : Txt K mg A) : FnOk P w K mg base CX0 1 A.f_Counter_value A.d_Counter_value ["self"] (sp_Counter_value K A) := by
  refine T.F_Counter_value.ok sc_Counter_value (fun vs H Q E h => ?_) (fun cdv Ar outer s H vs Q E hr h => ?_)
  · obtain ⟨p, dx, m, v, rfl, hp, k⟩ := h
    rfl
  · obtain ⟨p, dx, m, v, rfl, hp, k⟩ := h
    have hu := hu_of hr
    have t_i_Counter := T.i_Counter
    have t_kt_Counter_Counter := T.kt_Counter_Counter
    have t_kt_int_Counter := T.kt_int_Counter
    have t_nf_Counter_Counter := T.nf_Counter_Counter
    have t_nf_int_Counter := T.nf_int_Counter
    have t_k_Counter := T.k_Counter
    refine ⟨_, (pss_one (ps_ret (pe_fld (pv 0) rfl))), ?_⟩
    try dsimp only [L2.cxOf, L2.Cx.nox, L2.Cx.wish]
    with_reducible refine Rd.ret (Rd.fld (Rd.var (by walk_at "vr") (⟨_, _, _, _, _, rfl, (by walk_at "hp"), T.k_Counter, T.n_Counter_value, (by walk_at "lk"), ?_⟩)))
    exact k
/-! Counter.change -/
theorem sc_Counter_change : FnScope ["self", "value"] ["self", "value"] (defScope s_Counter_change) := ⟨rfl, rfl, rfl, by decide +kernel, rfl, by decide +kernel, by decide +kernel⟩
abbrev sp_Counter_change (K : PySem.W.Frag) (A : Adr) : Sp := fun vs H Q _ => ∃ (p dx : Addr) (m v w : Int), vs = [.ref p, .int w] ∧ H p = some (.ins A.c_Counter dx (fC m v)) ∧ 0 ≤ w ∧ w < m ∧ Q .non (upd H p (.ins A.c_Counter dx (fC m w)))
theorem ok_Counter_change (T : Txt K mg A) : FnOk P w K mg base CX0 3 A.f_Counter_change A.d_Counter_change ["self", "value"] (sp_Counter_change K A) := by
  refine T.F_Counter_change.ok sc_Counter_change (fun vs H Q E h => ?_) (fun cdv Ar outer s H vs Q E hr h => ?_)
  · obtain ⟨p, dx, m, v, w, rfl, hp, h0, h1, k⟩ := h
    rfl
  · obtain ⟨p, dx, m, v, w, rfl, hp, h0, h1, k⟩ := h
    have hu := hu_of hr
    have t_i_Counter := T.i_Counter
    have t_kt_Counter_Counter := T.kt_Counter_Counter
    have t_kt_int_Counter := T.kt_int_Counter
    have t_nf_Counter_Counter := T.nf_Counter_Counter
    have t_nf_int_Counter := T.nf_int_Counter
    have t_k_Counter := T.k_Counter
    refine ⟨_, (pss_cons (ps_if (pt_not (pt_val (pe_call (ok_is_whole_from T) (hr.mono (by decide)) (by rfl) T.m_is_whole_from T.F_is_whole_from.kp T.b_is_whole_from .nil pass0 (pa_cons (pv 1) (pa_cons pe_int (pa_cons (pe_op op_sub (pe_fld (pv 0) rfl) pe_int) pa_nil)))))) (pss_one ps_never) pss_nil)
      (pss_one (ps_fld (pv 0) (pv 1) rfl))), ?_⟩
    try dsimp only [L2.cxOf, L2.Cx.nox, L2.Cx.wish]
    with_reducible refine Rd.seq (Rd.ifS (Rd.not (Rd.tb (Rd.call (Rd.cons (Rd.var (by walk_at "vr") (Rd.cons (Rd.c (Rd.cons (Rd.op (Rd.fld ?_)))))))))))
    with_reducible refine Rd.var (by walk_at "vr") (⟨_, _, _, _, _, rfl, (by walk_at "hp"), T.k_Counter, T.n_Counter_modulus, (by walk_at "lk"), (Rd.c (Rd.i0 (Rd.nil ?_)))⟩)
    refine ⟨_, _, _, rfl, (by walk_at "sc"), (by walk_at "sc"), ?_⟩
    with_reducible refine Rd.bl (Rd.iteF (by walk_at "bF") (Rd.next (Rd.sfld (Rd.var (by walk_at "vr") (Rd.var (by walk_at "vr") (⟨_, _, _, _, rfl, (by walk_at "hp"), T.k_Counter, T.n_Counter_value, (by walk_at "sfl"), ?_⟩))))))
    rw [fC_set]
    exact k
/-! Counter.__add__ -/
theorem sc_Counteru__addu_ : FnScope ["self", "other"] ["self", "other"] (defScope s_Counteru__addu_) := ⟨rfl, rfl, rfl, by decide +kernel, rfl, by decide +kernel, by decide +kernel⟩
abbrev sp_Counteru__addu_ (K : PySem.W.Frag) (A : Adr) : Sp := fun vs H Q _ => ∃ (p dx : Addr) (m v i : Int), vs = [.ref p, .int i] ∧ H p = some (.ins A.c_Counter dx (fC m v)) ∧ 1 ≤ m ∧ m ≤ 10000000000000000000000000000000000000000 ∧ ∀ (q dq : Addr) (H' : Hp), Same H H' → H' q = some (.ins A.c_Counter dq (fC m ((v + i) % m))) → Q (.ref q) H'
theorem ok_Counteru__addu_ (T : Txt K mg A) : FnOk P w K mg base CX0 5 A.f_Counteru__addu_ A.d_Counteru__addu_ ["self", "other"] (sp_Counteru__addu_ K A) := by
  refine T.F_Counteru__addu_.ok sc_Counteru__addu_ (fun vs H Q E h => ?_) (fun cdv Ar outer s H vs Q E hr h => ?_)
  · obtain ⟨p, dx, m, v, i, rfl, hp, h1, h2, k⟩ := h
    rfl
  · obtain ⟨p, dx, m, v, i, rfl, hp, h1, h2, k⟩ := h
    have hu := hu_of hr
    have t_i_Counter := T.i_Counter
    have t_kt_Counter_Counter := T.kt_Counter_Counter
    have t_kt_int_Counter := T.kt_int_Counter
    have t_nf_Counter_Counter := T.nf_Counter_Counter
    have t_nf_int_Counter := T.nf_int_Counter
    have t_k_Counter := T.k_Counter
    refine ⟨_, (pss_cons (ps_expr (pe_call (ok_check_whole T) (hr.mono (by decide)) (by rfl) T.m_check_whole T.F_check_whole.kp T.b_check_whole .nil pass0 (pa_cons (pv 1) pa_nil)))
      (pss_one (ps_ret (pe_make T.K_Counter (ok_Counteru__initu_ T) (hr.mono (by decide)) (by rfl) T.m_Counter T.b_Counteru__initu_ .nil pass0 (pa_cons (pe_fld (pv 0) rfl) (pa_cons (pe_op op_add (pe_fld (pv 0) rfl) (pv 1)) pa_nil)))))), ?_⟩
    try dsimp only [L2.cxOf, L2.Cx.nox, L2.Cx.wish]
    with_reducible refine Rd.seq (Rd.drop (Rd.call (Rd.cons (Rd.var (by walk_at "vr") (Rd.nil ?_)))))
    refine ⟨_, rfl, ?_⟩
    with_reducible refine Rd.ret (Rd.make (Rd.cons (Rd.fld (Rd.var (by walk_at "vr") (⟨_, _, _, _, _, rfl, (by walk_at "hp"), T.k_Counter, T.n_Counter_modulus, (by walk_at "lk"), (Rd.cons (Rd.op (Rd.fld (Rd.var (by walk_at "vr") (⟨_, _, _, _, _, rfl, (by walk_at "hp"), T.k_Counter, T.n_Counter_value, (by walk_at "lk"), (Rd.var (by walk_at "vr") ?_)⟩)))))⟩)))))
    with_reducible refine Rd.i0 (Rd.nil ?_)
    intro x2 dx2 nx2 ndx2 ne2
    refine ⟨_, _, _, _, rfl, L2.upd_same, (by walk_at "sc"), (by walk_at "sc"), ?_⟩
    refine ⟨rfl, ?_⟩
    rw [L2.upd_upd]
    exact k _ _ _ (by walk_at "frm") L2.upd_same
/-! Counter.__radd__ -/
theorem sc_Counteru__raddu_ : FnScope ["self", "other"] ["self", "other"] (defScope s_Counteru__raddu_) := ⟨rfl, rfl, rfl, by decide +kernel, rfl, by decide +kernel, by decide +kernel⟩
abbrev sp_Counteru__raddu_ (K : PySem.W.Frag) (A : Adr) : Sp := fun vs H Q _ => ∃ (p dx : Addr) (m v i : Int), vs = [.ref p, .int i] ∧ H p = some (.ins A.c_Counter dx (fC m v)) ∧ 1 ≤ m ∧ m ≤ 10000000000000000000000000000000000000000 ∧ ∀ (q dq : Addr) (H' : Hp), Same H H' → H' q = some (.ins A.c_Counter dq (fC m ((v + i) % m))) → Q (.ref q) H'
theorem ok_Counteru__raddu_ (T : Txt K mg A) : FnOk P w K mg base CX0 6 A.f_Counteru__raddu_ A.d_Counteru__raddu_ ["self", "other"] (sp_Counteru__raddu_ K A) := by
  refine T.F_Counteru__raddu_.ok sc_Counteru__raddu_ (fun vs H Q E h => ?_) (fun cdv Ar outer s H vs Q E hr h => ?_)
  · obtain ⟨p, dx, m, v, i, rfl, hp, h1, h2, k⟩ := h
    rfl
  · obtain ⟨p, dx, m, v, i, rfl, hp, h1, h2, k⟩ := h
    have hu := hu_of hr
    have t_i_Counter := T.i_Counter
    have t_kt_Counter_Counter := T.kt_Counter_Counter
    have t_kt_int_Counter := T.kt_int_Counter
    have t_nf_Counter_Counter := T.nf_Counter_Counter
    have t_nf_int_Counter := T.nf_int_Counter
    have t_k_Counter := T.k_Counter
    refine ⟨_, (pss_one (ps_ret (pe_op (Own.opT (op := .Add) (ok_Counteru__addu_ T) (hr.mono (by decide)) T.O_Counteru__addu__T T.b_Counteru__addu_ pass0) (pv 0) (pv 1)))), ?_⟩
    try dsimp only [L2.cxOf, L2.Cx.nox, L2.Cx.wish]
    with_reducible refine Rd.ret (Rd.op (Rd.var (by walk_at "vr") (Rd.var (by walk_at "vr") (Own.opT2 (by walk_at "hp") (by walk_at "ty0") ?_))))
    refine ⟨_, _, _, _, _, rfl, (by walk_at "hp"), (by walk_at "sc"), (by walk_at "sc"), fun q1 dq1 H1 S1 r1 => ?_⟩
    exact k _ _ _ (by walk_at "frm") (by walk_at "hp")
/-! Counter.__sub__ -/
theorem sc_Counteru__subu_ : FnScope ["self", "other"] ["self", "other"] (defScope s_Counteru__subu_) := ⟨rfl, rfl, rfl, by decide +kernel, rfl, by decide +kernel, by decide +kernel⟩
abbrev sp_Counteru__subu_ (K : PySem.W.Frag) (A : Adr) : Sp := fun vs H Q _ => ∃ (p dx : Addr) (m v : Int) (y : V), vs = [.ref p, y] ∧ H p = some (.ins A.c_Counter dx (fC m v)) ∧ 1 ≤ m ∧ m ≤ 10000000000000000000000000000000000000000 ∧ ((∃ (q dq : Addr) (u : Int), y = .ref q ∧ H q = some (.ins A.c_Counter dq (fC m u)) ∧ Q (.int ((v - u) % m)) H) ∨ (∃ i : Int, y = .int i ∧ ∀ (q dq : Addr) (H' : Hp), Same H H' → H' q = some (.ins A.c_Counter dq (fC m ((v - i) % m))) → Q (.ref q) H'))
theorem ok_Counteru__subu_ (T : Txt K mg A) : FnOk P w K mg base CX0 5 A.f_Counteru__subu_ A.d_Counteru__subu_ ["self", "other"] (sp_Counteru__subu_ K A) := by
  refine T.F_Counteru__subu_.ok sc_Counteru__subu_ (fun vs H Q E h => ?_) (fun cdv Ar outer s H vs Q E hr h => ?_)
  · obtain ⟨p, dx, m, v, y, rfl, hp, h1, h2, hy⟩ := h
    rfl
  · obtain ⟨p, dx, m, v, y, rfl, hp, h1, h2, hy⟩ := h
    have hu := hu_of hr
    have t_i_Counter := T.i_Counter
    have t_kt_Counter_Counter := T.kt_Counter_Counter
    have t_kt_int_Counter := T.kt_int_Counter
    have t_nf_Counter_Counter := T.nf_Counter_Counter
    have t_nf_int_Counter := T.nf_int_Counter
    have t_k_Counter := T.k_Counter
    rcases hy with ⟨q, dq, u, rfl, hq, k⟩ | ⟨i, rfl, k⟩
    · skip
      refine ⟨_, (pss_cons (ps_if (PW.pt (pw_and (pt_val (pe_callB (Rd.isi (K := K) rfl) (by rfl) T.n_isinstance (by decide +kernel) (pa_cons (pv 1) (pa_cons (pe_glob (v := .ref A.c_Counter) rfl T.m_Counter rfl) pa_nil)))) (pw_and1 (pt_cmpR op_eq (pe_fld (pv 1) rfl) (pe_fld (pv 0) rfl) (nomark _))))) (pss_one (ps_ret (pe_op op_mod (pe_op op_sub (pe_fld (pv 0) rfl) (pe_prop (pv 1) T.k_Counter T.R_Counter_value (ok_Counter_value T) (hr.mono (by decide)) T.b_Counter_value .nil pass0 rfl)) (pe_fld (pv 0) rfl)))) pss_nil)
      (pss_cons (ps_expr (pe_call (ok_check_whole T) (hr.mono (by decide)) (by rfl) T.m_check_whole T.F_check_whole.kp T.b_check_whole .nil pass0 (pa_cons (pv 1) pa_nil)))
      (pss_one (ps_ret (pe_make T.K_Counter (ok_Counteru__initu_ T) (hr.mono (by decide)) (by rfl) T.m_Counter T.b_Counteru__initu_ .nil pass0 (pa_cons (pe_fld (pv 0) rfl) (pa_cons (pe_op op_sub (pe_fld (pv 0) rfl) (pv 1)) pa_nil))))))), ?_⟩
      try dsimp only [L2.cxOf, L2.Cx.nox, L2.Cx.wish]
      with_reducible refine Rd.seq (Rd.ifS (Rd.and (Rd.tb (Rd.cB (Rd.cons (Rd.var (by walk_at "vr") (Rd.cons (Rd.c (Rd.nil ?_)))))))))
      refine ⟨_, _, _, _, _, rfl, (by walk_at "clsv"), (by walk_at "tyx"), (by walk_at "kit"), ?_⟩
      with_reducible refine Rd.bl (Rd.iteT (by walk_at "bT") (Rd.test (Rd.op (Rd.fld (Rd.var (by walk_at "vr") (⟨_, _, _, _, _, rfl, (by walk_at "hp"), T.k_Counter, T.n_Counter_modulus, (by walk_at "lk"), (Rd.fld (Rd.var (by walk_at "vr") (⟨_, _, _, _, _, rfl, (by walk_at "hp"), T.k_Counter, T.n_Counter_modulus, (by walk_at "lk"), (Rd.eqS (by walk_at "vr") (Rd.bl ?_))⟩)))⟩))))))
      with_reducible refine Rd.iteT (by walk_at "bT") (Rd.ret (Rd.op (Rd.op (Rd.fld (Rd.var (by walk_at "vr") (⟨_, _, _, _, _, rfl, (by walk_at "hp"), T.k_Counter, T.n_Counter_value, (by walk_at "lk"), (Rd.prop (Rd.var (by walk_at "vr") (⟨_, _, _, rfl, (by walk_at "hp"), ?_⟩)))⟩))))))
      refine ⟨_, _, _, _, rfl, (by walk_at "hp"), ?_⟩
      with_reducible refine Rd.i0 (Rd.fld (Rd.var (by walk_at "vr") (⟨_, _, _, _, _, rfl, (by walk_at "hp"), T.k_Counter, T.n_Counter_modulus, (by walk_at "lk"), (Rd.iC (by walk_at "sc") ?_)⟩)))
      exact k
    · skip
      refine ⟨_, (pss_cons (ps_if (PW.pt (pw_and (pt_val (pe_callB (Rd.isi (K := K) rfl) (by rfl) T.n_isinstance (by decide +kernel) (pa_cons (pv 1) (pa_cons (pe_glob (v := .ref A.c_Counter) rfl T.m_Counter rfl) pa_nil)))) (pw_and1 (pt_cmpR op_eq (pe_fld (pv 1) rfl) (pe_fld (pv 0) rfl) (nomark _))))) (pss_one (ps_ret (pe_op op_mod (pe_op op_sub (pe_fld (pv 0) rfl) (pe_prop (pv 1) T.k_Counter T.R_Counter_value (ok_Counter_value T) (hr.mono (by decide)) T.b_Counter_value .nil pass0 rfl)) (pe_fld (pv 0) rfl)))) pss_nil)
      (pss_cons (ps_expr (pe_call (ok_check_whole T) (hr.mono (by decide)) (by rfl) T.m_check_whole T.F_check_whole.kp T.b_check_whole .nil pass0 (pa_cons (pv 1) pa_nil)))
      (pss_one (ps_ret (pe_make T.K_Counter (ok_Counteru__initu_ T) (hr.mono (by decide)) (by rfl) T.m_Counter T.b_Counteru__initu_ .nil pass0 (pa_cons (pe_fld (pv 0) rfl) (pa_cons (pe_op op_sub (pe_fld (pv 0) rfl) (pv 1)) pa_nil))))))), ?_⟩
      try dsimp only [L2.cxOf, L2.Cx.nox, L2.Cx.wish]
      with_reducible refine Rd.seq (Rd.ifS (Rd.and (Rd.tb (Rd.cB (Rd.cons (Rd.var (by walk_at "vr") (Rd.cons (Rd.c (Rd.nil ?_)))))))))
      refine ⟨_, _, _, _, _, rfl, (by walk_at "clsv"), (by walk_at "tyx"), (by walk_at "kit"), ?_⟩
      with_reducible refine Rd.bl (Rd.iteF (by walk_at "bF") (Rd.iteF rfl (Rd.next (Rd.seq (Rd.drop (Rd.call (Rd.cons (Rd.var (by walk_at "vr") (Rd.nil ?_)))))))))
      refine ⟨_, rfl, ?_⟩
      with_reducible refine Rd.ret (Rd.make (Rd.cons (Rd.fld (Rd.var (by walk_at "vr") (⟨_, _, _, _, _, rfl, (by walk_at "hp"), T.k_Counter, T.n_Counter_modulus, (by walk_at "lk"), (Rd.cons (Rd.op (Rd.fld (Rd.var (by walk_at "vr") (⟨_, _, _, _, _, rfl, (by walk_at "hp"), T.k_Counter, T.n_Counter_value, (by walk_at "lk"), (Rd.var (by walk_at "vr") ?_)⟩)))))⟩)))))
      with_reducible refine Rd.i0 (Rd.nil ?_)
      intro x2 dx2 nx2 ndx2 ne2
      refine ⟨_, _, _, _, rfl, L2.upd_same, (by walk_at "sc"), (by walk_at "sc"), ?_⟩
      refine ⟨rfl, ?_⟩
      rw [L2.upd_upd]
      exact k _ _ _ (by walk_at "frm") L2.upd_same
/-! Counter.__iadd__ -/
theorem sc_Counteru__iaddu_ : FnScope ["self", "other"] ["self", "other"] (defScope s_Counteru__iaddu_) := ⟨rfl, rfl, rfl, by decide +kernel, rfl, by decide +kernel, by decide +kernel⟩
abbrev sp_Counteru__iaddu_ (K : PySem.W.Frag) (A : Adr) : Sp := fun vs H Q _ => ∃ (p dx : Addr) (m v i : Int), vs = [.ref p, .int i] ∧ H p = some (.ins A.c_Counter dx (fC m v)) ∧ 1 ≤ m ∧ m ≤ 10000000000000000000000000000000000000000 ∧ Q (.ref p) (upd H p (.ins A.c_Counter dx (fC m ((v + i) % m))))
theorem ok_Counteru__iaddu_ (T : Txt K mg A) : FnOk P w K mg base CX0 3 A.f_Counteru__iaddu_ A.d_Counteru__iaddu_ ["self", "other"] (sp_Counteru__iaddu_ K A) := by
  refine T.F_Counteru__iaddu_.ok sc_Counteru__iaddu_ (fun vs H Q E h => ?_) (fun cdv Ar outer s H vs Q E hr h => ?_)
  · obtain ⟨p, dx, m, v, i, rfl, hp, h1, h2, k⟩ := h
    rfl
  · obtain ⟨p, dx, m, v, i, rfl, hp, h1, h2, k⟩ := h
    have hu := hu_of hr
    have t_i_Counter := T.i_Counter
    have t_kt_Counter_Counter := T.kt_Counter_Counter
    have t_kt_int_Counter := T.kt_int_Counter
    have t_nf_Counter_Counter := T.nf_Counter_Counter
    have t_nf_int_Counter := T.nf_int_Counter
    have t_k_Counter := T.k_Counter
    refine ⟨_, (pss_cons (ps_expr (pe_call (ok_check_whole T) (hr.mono (by decide)) (by rfl) T.m_check_whole T.F_check_whole.kp T.b_check_whole .nil pass0 (pa_cons (pv 1) pa_nil)))
      (pss_cons (ps_fld (pv 0) (pe_op op_mod (pe_op op_add (pe_fld (pv 0) rfl) (pv 1)) (pe_fld (pv 0) rfl)) rfl)
      (pss_one (ps_ret (pv 0))))), ?_⟩
    try dsimp only [L2.cxOf, L2.Cx.nox, L2.Cx.wish]
    with_reducible refine Rd.seq (Rd.drop (Rd.call (Rd.cons (Rd.var (by walk_at "vr") (Rd.nil ?_)))))
    refine ⟨_, rfl, ?_⟩
    with_reducible refine Rd.seq (Rd.sfld (Rd.op (Rd.op (Rd.fld (Rd.var (by walk_at "vr") (⟨_, _, _, _, _, rfl, (by walk_at "hp"), T.k_Counter, T.n_Counter_value, (by walk_at "lk"), (Rd.var (by walk_at "vr") (Rd.i0 (Rd.fld (Rd.var (by walk_at "vr") (⟨_, _, _, _, _, rfl, (by walk_at "hp"), T.k_Counter, T.n_Counter_modulus, (by walk_at "lk"), ?_⟩)))))⟩))))))
    with_reducible refine Rd.iC (by walk_at "sc") (Rd.var (by walk_at "vr") (⟨_, _, _, _, rfl, (by walk_at "hp"), T.k_Counter, T.n_Counter_value, (by walk_at "sfl"), (Rd.ret (Rd.var (by walk_at "vr") ?_))⟩))
    rw [fC_set]
    exact k
/-! Counter.__isub__ -/
theorem sc_Counteru__isubu_ : FnScope ["self", "other"] ["self", "other"] (defScope s_Counteru__isubu_) := ⟨rfl, rfl, rfl, by decide +kernel, rfl, by decide +kernel, by decide +kernel⟩
abbrev sp_Counteru__isubu_ (K : PySem.W.Frag) (A : Adr) : Sp := fun vs H Q _ => ∃ (p dx : Addr) (m v i : Int), vs = [.ref p, .int i] ∧ H p = some (.ins A.c_Counter dx (fC m v)) ∧ 1 ≤ m ∧ m ≤ 10000000000000000000000000000000000000000 ∧ Q (.ref p) (upd H p (.ins A.c_Counter dx (fC m ((v - i) % m))))
theorem ok_Counteru__isubu_ (T : Txt K mg A) : FnOk P w K mg base CX0 3 A.f_Counteru__isubu_ A.d_Counteru__isubu_ ["self", "other"] (sp_Counteru__isubu_ K A) := by
  refine T.F_Counteru__isubu_.ok sc_Counteru__isubu_ (fun vs H Q E h => ?_) (fun cdv Ar outer s H vs Q E hr h => ?_)
  · obtain ⟨p, dx, m, v, i, rfl, hp, h1, h2, k⟩ := h
    rfl
  · obtain ⟨p, dx, m, v, i, rfl, hp, h1, h2, k⟩ := h
    have hu := hu_of hr
    have t_i_Counter := T.i_Counter
    have t_kt_Counter_Counter := T.kt_Counter_Counter
    have t_kt_int_Counter := T.kt_int_Counter
    have t_nf_Counter_Counter := T.nf_Counter_Counter
    have t_nf_int_Counter := T.nf_int_Counter
    have t_k_Counter := T.k_Counter
    refine ⟨_, (pss_cons (ps_expr (pe_call (ok_check_whole T) (hr.mono (by decide)) (by rfl) T.m_check_whole T.F_check_whole.kp T.b_check_whole .nil pass0 (pa_cons (pv 1) pa_nil)))
      (pss_cons (ps_fld (pv 0) (pe_op op_mod (pe_op op_sub (pe_fld (pv 0) rfl) (pv 1)) (pe_fld (pv 0) rfl)) rfl)
      (pss_one (ps_ret (pv 0))))), ?_⟩
    try dsimp only [L2.cxOf, L2.Cx.nox, L2.Cx.wish]
    with_reducible refine Rd.seq (Rd.drop (Rd.call (Rd.cons (Rd.var (by walk_at "vr") (Rd.nil ?_)))))
    refine ⟨_, rfl, ?_⟩
    with_reducible refine Rd.seq (Rd.sfld (Rd.op (Rd.op (Rd.fld (Rd.var (by walk_at "vr") (⟨_, _, _, _, _, rfl, (by walk_at "hp"), T.k_Counter, T.n_Counter_value, (by walk_at "lk"), (Rd.var (by walk_at "vr") (Rd.i0 (Rd.fld (Rd.var (by walk_at "vr") (⟨_, _, _, _, _, rfl, (by walk_at "hp"), T.k_Counter, T.n_Counter_modulus, (by walk_at "lk"), ?_⟩)))))⟩))))))
    with_reducible refine Rd.iC (by walk_at "sc") (Rd.var (by walk_at "vr") (⟨_, _, _, _, rfl, (by walk_at "hp"), T.k_Counter, T.n_Counter_value, (by walk_at "sfl"), (Rd.ret (Rd.var (by walk_at "vr") ?_))⟩))
    rw [fC_set]
    exact k
/-! check_divisor -/
theorem sc_check_divisor : FnScope ["thing"] ["thing"] (defScope s_check_divisor) := ⟨rfl, rfl, rfl, by decide +kernel, rfl, by decide +kernel, by decide +kernel⟩
abbrev sp_check_divisor (K : PySem.W.Frag) (A : Adr) : Sp := fun vs H Q _ => ∃ i : Int, vs = [.int i] ∧ 1 ≤ i ∧ Q .non H
theorem ok_check_divisor (T : Txt K mg A) : FnOk P w K mg base CX0 2 A.f_check_divisor A.d_check_divisor ["thing"] (sp_check_divisor K A) := by
  refine T.F_check_divisor.ok sc_check_divisor (fun vs H Q E h => ?_) (fun cdv Ar outer s H vs Q E hr h => ?_)
  · obtain ⟨i, rfl, h1, k⟩ := h
    rfl
  · obtain ⟨i, rfl, h1, k⟩ := h
    have hu := hu_of hr
    have t_i_Counter := T.i_Counter
    have t_kt_Counter_Counter := T.kt_Counter_Counter
    have t_kt_int_Counter := T.kt_int_Counter
    have t_nf_Counter_Counter := T.nf_Counter_Counter
    have t_nf_int_Counter := T.nf_int_Counter
    have t_k_Counter := T.k_Counter
    refine ⟨_, (pss_one (ps_if (PW.pt (pw_or (pt_not (pt_val (pe_call (ok_is_whole T) (hr.mono (by decide)) (by rfl) T.m_is_whole T.F_is_whole.kp T.b_is_whole .nil pass0 (pa_cons (pv 0) pa_nil)))) (pw_or1 (pt_cmpR op_lt (pv 0) pe_int (nomark _))))) (pss_one ps_never) pss_nil)), ?_⟩
    try dsimp only [L2.cxOf, L2.Cx.nox, L2.Cx.wish]
    with_reducible refine Rd.ifS (Rd.or (Rd.not (Rd.tb (Rd.call (Rd.cons (Rd.var (by walk_at "vr") (Rd.nil ?_)))))))
    refine ⟨_, rfl, ?_⟩
    with_reducible refine Rd.bl (Rd.iteF (by walk_at "bF") (Rd.test (Rd.op (Rd.var (by walk_at "vr") (Rd.c (Rd.i0 (Rd.bl (Rd.iteF (by walk_at "bF") (Rd.next ?_)))))))))
    exact k
/-! Counter.__floordiv__ -/
theorem sc_Counteru__floordivu_ : FnScope ["self", "other"] ["self", "other"] (defScope s_Counteru__floordivu_) := ⟨rfl, rfl, rfl, by decide +kernel, rfl, by decide +kernel, by decide +kernel⟩
abbrev sp_Counteru__floordivu_ (K : PySem.W.Frag) (A : Adr) : Sp := fun vs H Q _ => ∃ (p dx : Addr) (m v i : Int), vs = [.ref p, .int i] ∧ H p = some (.ins A.c_Counter dx (fC m v)) ∧ 1 ≤ i ∧ i < 2 ^ 190 ∧ Q (.int (v / i)) H
theorem ok_Counteru__floordivu_ (T : Txt K mg A) : FnOk P w K mg base CX0 3 A.f_Counteru__floordivu_ A.d_Counteru__floordivu_ ["self", "other"] (sp_Counteru__floordivu_ K A) := by
  refine T.F_Counteru__floordivu_.ok sc_Counteru__floordivu_ (fun vs H Q E h => ?_) (fun cdv Ar outer s H vs Q E hr h => ?_)
  · obtain ⟨p, dx, m, v, i, rfl, hp, h1, h2, k⟩ := h
    rfl
  · obtain ⟨p, dx, m, v, i, rfl, hp, h1, h2, k⟩ := h
    have hu := hu_of hr
    have t_i_Counter := T.i_Counter
    have t_kt_Counter_Counter := T.kt_Counter_Counter
    have t_kt_int_Counter := T.kt_int_Counter
    have t_nf_Counter_Counter := T.nf_Counter_Counter
    have t_nf_int_Counter := T.nf_int_Counter
    have t_k_Counter := T.k_Counter
    refine ⟨_, (pss_cons (ps_expr (pe_call (ok_check_divisor T) (hr.mono (by decide)) (by rfl) T.m_check_divisor T.F_check_divisor.kp T.b_check_divisor .nil pass0 (pa_cons (pv 1) pa_nil)))
      (pss_one (ps_ret (pe_op op_fdivW (pe_fld (pv 0) rfl) (pv 1))))), ?_⟩
    try dsimp only [L2.cxOf, L2.Cx.nox, L2.Cx.wish]
    with_reducible refine Rd.seq (Rd.drop (Rd.call (Rd.cons (Rd.var (by walk_at "vr") (Rd.nil ?_)))))
    refine ⟨_, rfl, (by walk_at "sc"), ?_⟩
    with_reducible refine Rd.ret (Rd.op (Rd.fld (Rd.var (by walk_at "vr") (⟨_, _, _, _, _, rfl, (by walk_at "hp"), T.k_Counter, T.n_Counter_value, (by walk_at "lk"), (Rd.var (by walk_at "vr") (Rd.iC (by walk_at "scd") ?_))⟩))))
    exact k
/-! Counter.__mod__ -/
theorem sc_Counteru__modu_ : FnScope ["self", "other"] ["self", "other"] (defScope s_Counteru__modu_) := ⟨rfl, rfl, rfl, by decide +kernel, rfl, by decide +kernel, by decide +kernel⟩
abbrev sp_Counteru__modu_ (K : PySem.W.Frag) (A : Adr) : Sp := fun vs H Q _ => ∃ (p dx : Addr) (m v i : Int), vs = [.ref p, .int i] ∧ H p = some (.ins A.c_Counter dx (fC m v)) ∧ 1 ≤ i ∧ i < 2 ^ 190 ∧ Q (.int (v % i)) H
theorem ok_Counteru__modu_ (T : Txt K mg A) : FnOk P w K mg base CX0 3 A.f_Counteru__modu_ A.d_Counteru__modu_ ["self", "other"] (sp_Counteru__modu_ K A) := by
  refine T.F_Counteru__modu_.ok sc_Counteru__modu_ (fun vs H Q E h => ?_) (fun cdv Ar outer s H vs Q E hr h => ?_)
  · obtain ⟨p, dx, m, v, i, rfl, hp, h1, h2, k⟩ := h
    rfl
  · obtain ⟨p, dx, m, v, i, rfl, hp, h1, h2, k⟩ := h
    have hu := hu_of hr
    have t_i_Counter := T.i_Counter
    have t_kt_Counter_Counter := T.kt_Counter_Counter
    have t_kt_int_Counter := T.kt_int_Counter
    have t_nf_Counter_Counter := T.nf_Counter_Counter
    have t_nf_int_Counter := T.nf_int_Counter
    have t_k_Counter := T.k_Counter
    refine ⟨_, (pss_cons (ps_expr (pe_call (ok_check_divisor T) (hr.mono (by decide)) (by rfl) T.m_check_divisor T.F_check_divisor.kp T.b_check_divisor .nil pass0 (pa_cons (pv 1) pa_nil)))
      (pss_one (ps_ret (pe_op op_mod (pe_fld (pv 0) rfl) (pv 1))))), ?_⟩
    try dsimp only [L2.cxOf, L2.Cx.nox, L2.Cx.wish]
    with_reducible refine Rd.seq (Rd.drop (Rd.call (Rd.cons (Rd.var (by walk_at "vr") (Rd.nil ?_)))))
    refine ⟨_, rfl, (by walk_at "sc"), ?_⟩
    with_reducible refine Rd.ret (Rd.op (Rd.fld (Rd.var (by walk_at "vr") (⟨_, _, _, _, _, rfl, (by walk_at "hp"), T.k_Counter, T.n_Counter_value, (by walk_at "lk"), (Rd.var (by walk_at "vr") (Rd.iC (by walk_at "sc") ?_))⟩))))
    exact k
/-! Counter.__and__ -/
theorem sc_Counteru__andu_ : FnScope ["self", "other"] ["self", "other"] (defScope s_Counteru__andu_) := ⟨rfl, rfl, rfl, by decide +kernel, rfl, by decide +kernel, by decide +kernel⟩
abbrev sp_Counteru__andu_ (K : PySem.W.Frag) (A : Adr) : Sp := fun vs H Q _ => ∃ (p dx : Addr) (m v i : Int), vs = [.ref p, .int i] ∧ H p = some (.ins A.c_Counter dx (fC m v)) ∧ 0 ≤ i ∧ Q (.int (Builtin.bitAnd v i)) H
theorem ok_Counteru__andu_ (T : Txt K mg A) : FnOk P w K mg base CX0 2 A.f_Counteru__andu_ A.d_Counteru__andu_ ["self", "other"] (sp_Counteru__andu_ K A) := by
  refine T.F_Counteru__andu_.ok sc_Counteru__andu_ (fun vs H Q E h => ?_) (fun cdv Ar outer s H vs Q E hr h => ?_)
  · obtain ⟨p, dx, m, v, i, rfl, hp, h1, k⟩ := h
    rfl
  · obtain ⟨p, dx, m, v, i, rfl, hp, h1, k⟩ := h
    have hu := hu_of hr
    have t_i_Counter := T.i_Counter
    have t_kt_Counter_Counter := T.kt_Counter_Counter
    have t_kt_int_Counter := T.kt_int_Counter
    have t_nf_Counter_Counter := T.nf_Counter_Counter
    have t_nf_int_Counter := T.nf_int_Counter
    have t_k_Counter := T.k_Counter
    refine ⟨_, (pss_cons (ps_if (PW.pt (pw_or (pt_not (pt_val (pe_call (ok_is_whole T) (hr.mono (by decide)) (by rfl) T.m_is_whole T.F_is_whole.kp T.b_is_whole .nil pass0 (pa_cons (pv 1) pa_nil)))) (pw_or1 (pt_cmpR op_lt (pv 1) pe_int (nomark _))))) (pss_one ps_never) pss_nil)
      (pss_one (ps_ret (pe_op op_and (pe_fld (pv 0) rfl) (pv 1))))), ?_⟩
    try dsimp only [L2.cxOf, L2.Cx.nox, L2.Cx.wish]
    with_reducible refine Rd.seq (Rd.ifS (Rd.or (Rd.not (Rd.tb (Rd.call (Rd.cons (Rd.var (by walk_at "vr") (Rd.nil ?_))))))))
    refine ⟨_, rfl, ?_⟩
    with_reducible refine Rd.bl (Rd.iteF (by walk_at "bF") (Rd.test (Rd.op (Rd.var (by walk_at "vr") (Rd.c (Rd.i0 (Rd.bl (Rd.iteF (by walk_at "bF") (Rd.next (Rd.ret (Rd.op ?_)))))))))))
    with_reducible refine Rd.fld (Rd.var (by walk_at "vr") (⟨_, _, _, _, _, rfl, (by walk_at "hp"), T.k_Counter, T.n_Counter_value, (by walk_at "lk"), (Rd.var (by walk_at "vr") (Rd.i0 ?_))⟩))
    exact k
/-! Counter.__eq__ -/
theorem sc_Counteru__equ_ : FnScope ["self", "other"] ["self", "other"] (defScope s_Counteru__equ_) := ⟨rfl, rfl, rfl, by decide +kernel, rfl, by decide +kernel, by decide +kernel⟩
abbrev sp_Counteru__equ_ (K : PySem.W.Frag) (A : Adr) : Sp := fun vs H Q _ => ∃ (p dx : Addr) (m v : Int) (y : V), vs = [.ref p, y] ∧ H p = some (.ins A.c_Counter dx (fC m v)) ∧ ((∃ (q dq : Addr) (c d : Int), y = .ref q ∧ H q = some (.ins A.c_Counter dq (fC c d)) ∧ Q (.bl (decide (V.int m = .int c) && decide (V.int v = .int d))) H) ∨ (∃ i : Int, y = .int i ∧ Q (.bl false) H))
theorem ok_Counteru__equ_ (T : Txt K mg A) : FnOk P w K mg base CX0 3 A.f_Counteru__equ_ A.d_Counteru__equ_ ["self", "other"] (sp_Counteru__equ_ K A) := by
  refine T.F_Counteru__equ_.ok sc_Counteru__equ_ (fun vs H Q E h => ?_) (fun cdv Ar outer s H vs Q E hr h => ?_)
  · obtain ⟨p, dx, m, v, y, rfl, hp, hy⟩ := h
    rfl
  · obtain ⟨p, dx, m, v, y, rfl, hp, hy⟩ := h
    have hu := hu_of hr
    have t_i_Counter := T.i_Counter
    have t_kt_Counter_Counter := T.kt_Counter_Counter
    have t_kt_int_Counter := T.kt_int_Counter
    have t_nf_Counter_Counter := T.nf_Counter_Counter
    have t_nf_int_Counter := T.nf_int_Counter
    have t_k_Counter := T.k_Counter
    rcases hy with ⟨q, dq, c, d, rfl, hq, k⟩ | ⟨i, rfl, k⟩
    · skip
      refine ⟨_, (pss_one (ps_ret (pe_and (pe_callB (Rd.isi (K := K) rfl) (by rfl) T.n_isinstance (by decide +kernel) (pa_cons (pv 1) (pa_cons (pe_glob (v := .ref A.c_Counter) rfl T.m_Counter rfl) pa_nil))) (pe_and (pe_cmpR op_eq (pe_fld (pv 0) rfl) (pe_fld (pv 1) rfl) (nomark _)) (pe_one (pe_cmpR op_eq (pe_fld (pv 0) rfl) (pe_prop (pv 1) T.k_Counter T.R_Counter_value (ok_Counter_value T) (hr.mono (by decide)) T.b_Counter_value .nil pass0 rfl) (nomark _))))))), ?_⟩
      try dsimp only [L2.cxOf, L2.Cx.nox, L2.Cx.wish]
      with_reducible refine Rd.ret (Rd.andV (Rd.cB (Rd.cons (Rd.var (by walk_at "vr") (Rd.cons (Rd.c (Rd.nil ?_)))))))
      refine ⟨_, _, _, _, _, rfl, (by walk_at "clsv"), (by walk_at "tyx"), (by walk_at "kit"), ?_⟩
      with_reducible refine Rd.bl (Rd.iteT (by walk_at "bT") (Rd.andV (Rd.op (Rd.fld (Rd.var (by walk_at "vr") (⟨_, _, _, _, _, rfl, (by walk_at "hp"), T.k_Counter, T.n_Counter_modulus, (by walk_at "lk"), (Rd.fld (Rd.var (by walk_at "vr") (⟨_, _, _, _, _, rfl, (by walk_at "hp"), T.k_Counter, T.n_Counter_modulus, (by walk_at "lk"), (Rd.eqS (by walk_at "vr") (Rd.bl ?_))⟩)))⟩))))))
      refine' Rd.andB (d := _) (fun Q1 hq1 => ?pa1) ?pb1
      case pa1 =>
        with_reducible refine Rd.op (Rd.fld (Rd.var (by walk_at "vr") (⟨_, _, _, _, _, rfl, (by walk_at "hp"), T.k_Counter, T.n_Counter_value, (by walk_at "lk"), (Rd.prop (Rd.var (by walk_at "vr") (⟨_, _, _, rfl, (by walk_at "hp"), ?_⟩)))⟩)))
        refine ⟨_, _, _, _, rfl, (by walk_at "hp"), ?_⟩
        with_reducible refine Rd.eqS (by walk_at "vr") ?_
        exact hq1
      rotate_left 0
      exact k
    · skip
      refine ⟨_, (pss_one (ps_ret (pe_and (pe_callB (Rd.isi (K := K) rfl) (by rfl) T.n_isinstance (by decide +kernel) (pa_cons (pv 1) (pa_cons (pe_glob (v := .ref A.c_Counter) rfl T.m_Counter rfl) pa_nil))) (pe_and (pe_cmpR op_eq (pe_fld (pv 0) rfl) (pe_fld (pv 1) rfl) (nomark _)) (pe_one (pe_cmpR op_eq (pe_fld (pv 0) rfl) (pe_prop (pv 1) T.k_Counter T.R_Counter_value (ok_Counter_value T) (hr.mono (by decide)) T.b_Counter_value .nil pass0 rfl) (nomark _))))))), ?_⟩
      try dsimp only [L2.cxOf, L2.Cx.nox, L2.Cx.wish]
      with_reducible refine Rd.ret (Rd.andV (Rd.cB (Rd.cons (Rd.var (by walk_at "vr") (Rd.cons (Rd.c (Rd.nil ?_)))))))
      refine ⟨_, _, _, _, _, rfl, (by walk_at "clsv"), (by walk_at "tyx"), (by walk_at "kit"), ?_⟩
      with_reducible refine Rd.bl (Rd.iteF (by walk_at "bF") ?_)
      exact k
/-! _law_source -/
theorem sc_l_source : FnScope ["_law_script", "_law_turn", "_law_cell", "_law_number_here", "_law_seed"] ["_law_script", "_law_turn"] (defScope s_l_source) := ⟨rfl, rfl, rfl, by decide +kernel, rfl, by decide +kernel, by decide +kernel⟩
abbrev sp_l_source (K : PySem.W.Frag) (A : Adr) : Sp := spSource K
theorem ok_l_source (T : Txt K mg A) : FnOk P w K mg base CX0 1 A.f_l_source A.d_l_source ["_law_script", "_law_turn"] (sp_l_source K A) := by
  refine T.F_l_source.ok sc_l_source (fun vs H Q E h => ?_) (fun cdv Ar outer s H vs Q E hr h => ?_)
  · obtain ⟨a, ns, t, rfl, ha, ht, ht2, k⟩ := h
    rfl
  · obtain ⟨a, ns, t, rfl, ha, ht, ht2, k⟩ := h
    have hu := hu_of hr
    have t_i_Counter := T.i_Counter
    have t_kt_Counter_Counter := T.kt_Counter_Counter
    have t_kt_int_Counter := T.kt_int_Counter
    have t_nf_Counter_Counter := T.nf_Counter_Counter
    have t_nf_int_Counter := T.nf_int_Counter
    have t_k_Counter := T.k_Counter
    refine ⟨_, (pss_cons (ps_set (i := 2) sc_l_source.nd rfl (Or.inl rfl) pe_int)
      (pss_cons (ps_if (pt_cmpR op_lt (pv 1) (pe_callB call_len_seq (by rfl) T.n_len PySem.boot_len (pa_cons (pv 0) pa_nil)) (nomark _)) (pss_one (ps_set (i := 2) sc_l_source.nd rfl (Or.inl rfl) (pe_ix ix_list (pv 0) (pv 1) (fun _ _ => rfl)))) pss_nil)
      (pss_cons (ps_set (i := 3) sc_l_source.nd rfl (Or.inl rfl) (pe_callB call_abs (by rfl) T.n_abs (by decide +kernel) (pa_cons (pv 2) pa_nil)))
      (pss_cons (ps_set (i := 4) sc_l_source.nd rfl (Or.inl rfl) (pe_op op_mod (pe_callTy call_int1 (by rfl) T.n_int (by decide +kernel) (pa_cons (pe_op op_add (pe_op op_add (pe_op op_mulW (pe_op op_mod (pe_callTy call_int1 (by rfl) T.n_int (by decide +kernel) (pa_cons (pv 3) pa_nil)) pe_int) pe_int) (pe_op op_mulW pe_int (pv 1))) pe_int) pa_nil)) pe_int))
      (pss_cons (ps_if (pt_cmpR op_lt (pv 3) (pe_op op_pow pe_int pe_int) (nomark _)) (pss_one (ps_set (i := 3) sc_l_source.nd rfl (Or.inl rfl) pe_int)) pss_nil)
      (pss_one (ps_ret (pe_lst (pa_cons (pv 3) (pa_cons (pv 4) pa_nil)))))))))), ?_⟩
    try dsimp only [L2.cxOf, L2.Cx.nox, L2.Cx.wish]
    with_reducible refine Rd.seq (Rd.asg (Rd.c (Rd.name (Rd.seq (Rd.ifS (Rd.test (Rd.op (Rd.var (by walk_at "vr") (Rd.cB (Rd.cons (Rd.var (by walk_at "vr") ?_)))))))))))
    with_reducible refine Rd.nil (⟨_, _, rfl, (by walk_at "hpq"), (Rd.i0 (Rd.bl ?_))⟩)
    refine Rd.ite (fun h0 => ?_) (fun h0 => ?_)
    · try simp only [decide_eq_true_eq, Bool.not_eq_true', decide_eq_false_iff_not, Bool.not_eq_true, Bool.not_eq_eq_eq_not, Bool.not_true, Bool.not_false] at h0
      with_reducible refine Rd.asg (Rd.op (Rd.var (by walk_at "vr") (Rd.var (by walk_at "vr") ?_)))
      obtain ⟨z, hz⟩ := atI_map ht (by simpa using h0)
      refine Rd.ixL (by walk_at "hpl") hz ?_
      with_reducible refine Rd.name (Rd.seq (Rd.asg (Rd.cB (Rd.cons (Rd.var (by walk_at "vr") (Rd.nil (⟨_, rfl, (Rd.name (Rd.seq (Rd.asg (Rd.op ?_))))⟩)))))))
      with_reducible refine Rd.cB (Rd.cons (Rd.op (Rd.op (Rd.op (Rd.op (Rd.cB (Rd.cons (Rd.var (by walk_at "vr") (Rd.nil ((.inl ⟨_, rfl, (Rd.c ?_)⟩)))))))))))
      with_reducible refine Rd.iC (by walk_at "sc") (Rd.c (Rd.iC (by walk_at "scm") (Rd.op (Rd.c (Rd.var (by walk_at "vr") (Rd.iC (by walk_at "scm") (Rd.i0 (Rd.c (Rd.i0 (Rd.nil ((.inl ⟨_, rfl, ?_⟩))))))))))))
      with_reducible refine Rd.c (Rd.iC (by walk_at "sc") (Rd.name (Rd.seq (Rd.ifS (Rd.test (Rd.op (Rd.var (by walk_at "vr") (Rd.op (Rd.c (Rd.c (Rd.iC (by walk_at "scp") ?_)))))))))))
      with_reducible refine Rd.i0 (Rd.bl ?_)
      refine Rd.ite (fun h1 => ?_) (fun h1 => ?_)
      · try simp only [decide_eq_true_eq, Bool.not_eq_true', decide_eq_false_iff_not, Bool.not_eq_true, Bool.not_eq_eq_eq_not, Bool.not_true, Bool.not_false] at h1
        with_reducible refine Rd.asg (Rd.c (Rd.name (Rd.ret (Rd.lst (Rd.cons (Rd.var (by walk_at "vr") (Rd.cons (Rd.var (by walk_at "vr") (Rd.nil (Rd.laid (by walk_at "ll") ?_))))))))))
        intro p0 np0
        exact k _ _ np0 ⟨_, _, rfl, (by walk_at "sc"), (by walk_at "sc"), (by walk_at "sc")⟩
      · try simp only [decide_eq_true_eq, Bool.not_eq_true', decide_eq_false_iff_not, Bool.not_eq_true, Bool.not_eq_eq_eq_not, Bool.not_true, Bool.not_false, Int.not_lt, Int.not_le, Decidable.not_not] at h1
        with_reducible refine Rd.next (Rd.ret (Rd.lst (Rd.cons (Rd.var (by walk_at "vr") (Rd.cons (Rd.var (by walk_at "vr") (Rd.nil (Rd.laid (by walk_at "ll") ?_))))))))
        intro p0 np0
        exact k _ _ np0 ⟨_, _, rfl, (by walk_at "sc"), (by walk_at "sc"), (by walk_at "sc")⟩
    · try simp only [decide_eq_true_eq, Bool.not_eq_true', decide_eq_false_iff_not, Bool.not_eq_true, Bool.not_eq_eq_eq_not, Bool.not_true, Bool.not_false, Int.not_lt, Int.not_le, Decidable.not_not] at h0
      with_reducible refine Rd.next (Rd.seq (Rd.asg (Rd.cB (Rd.cons (Rd.var (by walk_at "vr") (Rd.nil (⟨_, rfl, (Rd.name (Rd.seq (Rd.asg (Rd.op ?_))))⟩)))))))
      with_reducible refine Rd.cB (Rd.cons (Rd.op (Rd.op (Rd.op (Rd.op (Rd.cB (Rd.cons (Rd.var (by walk_at "vr") (Rd.nil ((.inl ⟨_, rfl, (Rd.c ?_)⟩)))))))))))
      with_reducible refine Rd.iC (by walk_at "sc") (Rd.c (Rd.iC (by walk_at "scm") (Rd.op (Rd.c (Rd.var (by walk_at "vr") (Rd.iC (by walk_at "scm") (Rd.i0 (Rd.c (Rd.i0 (Rd.nil ((.inl ⟨_, rfl, ?_⟩))))))))))))
      with_reducible refine Rd.c (Rd.iC (by walk_at "sc") (Rd.name (Rd.seq (Rd.ifS (Rd.test (Rd.op (Rd.var (by walk_at "vr") (Rd.op (Rd.c (Rd.c (Rd.iC (by walk_at "scp") ?_)))))))))))
      with_reducible refine Rd.i0 (Rd.bl ?_)
      refine Rd.ite (fun h1 => ?_) (fun h1 => ?_)
      · try simp only [decide_eq_true_eq, Bool.not_eq_true', decide_eq_false_iff_not, Bool.not_eq_true, Bool.not_eq_eq_eq_not, Bool.not_true, Bool.not_false] at h1
        with_reducible refine Rd.asg (Rd.c (Rd.name (Rd.ret (Rd.lst (Rd.cons (Rd.var (by walk_at "vr") (Rd.cons (Rd.var (by walk_at "vr") (Rd.nil (Rd.laid (by walk_at "ll") ?_))))))))))
        intro p0 np0
        exact k _ _ np0 ⟨_, _, rfl, (by walk_at "sc"), (by walk_at "sc"), (by walk_at "sc")⟩
      · try simp only [decide_eq_true_eq, Bool.not_eq_true', decide_eq_false_iff_not, Bool.not_eq_true, Bool.not_eq_eq_eq_not, Bool.not_true, Bool.not_false, Int.not_lt, Int.not_le, Decidable.not_not] at h1
        with_reducible refine Rd.next (Rd.ret (Rd.lst (Rd.cons (Rd.var (by walk_at "vr") (Rd.cons (Rd.var (by walk_at "vr") (Rd.nil (Rd.laid (by walk_at "ll") ?_))))))))
        intro p0 np0
        exact k _ _ np0 ⟨_, _, rfl, (by walk_at "sc"), (by walk_at "sc"), (by walk_at "sc")⟩
/-! _law_draw -/
theorem sc_l_draw : FnScope ["_law_source_here", "_law_amount", "_law_digit", "_law_found"] ["_law_source_here", "_law_amount"] (defScope s_l_draw) := ⟨rfl, rfl, rfl, by decide +kernel, rfl, by decide +kernel, by decide +kernel⟩
abbrev sp_l_draw (K : PySem.W.Frag) (A : Adr) : Sp := spDraw
theorem ok_l_draw (T : Txt K mg A) : FnOk P w K mg base CX0 1 A.f_l_draw A.d_l_draw ["_law_source_here", "_law_amount"] (sp_l_draw K A) := by
  refine T.F_l_draw.ok sc_l_draw (fun vs H Q E h => ?_) (fun cdv Ar outer s H vs Q E hr h => ?_)
  · obtain ⟨a, o, m, rfl, ha, ho, hm, hm2, k⟩ := h
    rfl
  · obtain ⟨a, o, m, rfl, ha, ho, hm, hm2, k⟩ := h
    have hu := hu_of hr
    have t_i_Counter := T.i_Counter
    have t_kt_Counter_Counter := T.kt_Counter_Counter
    have t_kt_int_Counter := T.kt_int_Counter
    have t_nf_Counter_Counter := T.nf_Counter_Counter
    have t_nf_int_Counter := T.nf_int_Counter
    have t_k_Counter := T.k_Counter
    obtain ⟨x, y, rfl, hx, hy, hy2⟩ := ho
    have e1 := Int.emod_nonneg x (show m ≠ 0 by first | omega | decide)
    have e2 := Int.emod_lt_of_pos x hm
    have e3 := Int.ediv_nonneg hx (show 0 ≤ m by first | omega | decide)
    refine ⟨_, (pss_cons (ps_if (pt_cmpR op_gt (pe_ix ix_list (pv 0) pe_int (fun _ _ => rfl)) pe_int (nomark _)) (pss_cons (ps_set (i := 2) sc_l_draw.nd rfl (Or.inl rfl) (pe_op op_mod (pe_callTy call_int1 (by rfl) T.n_int (by decide +kernel) (pa_cons (pe_ix ix_list (pv 0) pe_int (fun _ _ => rfl)) pa_nil)) (pv 1)))
      (pss_cons (ps_asg (pe_op op_fdivW (pe_ix ix_list (pv 0) pe_int (fun _ _ => rfl)) (pv 1)) (pg_sub (pv 0) pe_int set_list))
      (pss_one (ps_ret (pv 2))))) pss_nil)
      (pss_cons (ps_asg (pe_op op_mod (pe_callTy call_int1 (by rfl) T.n_int (by decide +kernel) (pa_cons (pe_op op_add (pe_op op_mulW (pe_ix ix_list (pv 0) pe_int (fun _ _ => rfl)) pe_int) pe_int) pa_nil)) pe_int) (pg_sub (pv 0) pe_int set_list))
      (pss_cons (ps_set (i := 3) sc_l_draw.nd rfl (Or.inl rfl) (pe_op op_fdivW (pe_op op_mod (pe_callTy call_int1 (by rfl) T.n_int (by decide +kernel) (pa_cons (pe_op op_mulW (pe_ix ix_list (pv 0) pe_int (fun _ _ => rfl)) (pe_ix ix_list (pv 0) pe_int (fun _ _ => rfl))) pa_nil)) pe_int) pe_int))
      (pss_cons (ps_if (pt_cmpR op_gt (pv 1) (pe_op op_pow pe_int pe_int) (nomark _)) (pss_cons (ps_asg (pe_op op_mod (pe_callTy call_int1 (by rfl) T.n_int (by decide +kernel) (pa_cons (pe_op op_add (pe_op op_mulW (pe_ix ix_list (pv 0) pe_int (fun _ _ => rfl)) pe_int) pe_int) pa_nil)) pe_int) (pg_sub (pv 0) pe_int set_list))
      (pss_one (ps_set (i := 3) sc_l_draw.nd rfl (Or.inl rfl) (pe_op op_add (pe_op op_mulW (pv 3) pe_int) (pe_op op_fdivW (pe_op op_mod (pe_callTy call_int1 (by rfl) T.n_int (by decide +kernel) (pa_cons (pe_op op_mulW (pe_ix ix_list (pv 0) pe_int (fun _ _ => rfl)) (pe_ix ix_list (pv 0) pe_int (fun _ _ => rfl))) pa_nil)) pe_int) pe_int))))) pss_nil)
      (pss_one (ps_ret (pe_op op_mod (pe_callTy call_int1 (by rfl) T.n_int (by decide +kernel) (pa_cons (pv 3) pa_nil)) (pv 1)))))))), ?_⟩
    try dsimp only [L2.cxOf, L2.Cx.nox, L2.Cx.wish]
    with_reducible refine Rd.seq (Rd.ifS (Rd.test (Rd.op (Rd.op (Rd.var (by walk_at "vr") (Rd.c (Rd.ixL (by walk_at "hpl") (by walk_at "vr") (Rd.c (Rd.i0 (Rd.bl ?_))))))))))
    refine Rd.ite (fun h0 => ?_) (fun h0 => ?_)
    · try simp only [decide_eq_true_eq, Bool.not_eq_true', decide_eq_false_iff_not, Bool.not_eq_true, Bool.not_eq_eq_eq_not, Bool.not_true, Bool.not_false] at h0
      with_reducible refine Rd.seq (Rd.asg (Rd.op (Rd.cB (Rd.cons (Rd.op (Rd.var (by walk_at "vr") (Rd.c (Rd.ixL (by walk_at "hpl") (by walk_at "vr") (Rd.nil ((.inl ⟨_, rfl, (Rd.var (by walk_at "vr") ?_)⟩)))))))))))
      with_reducible refine Rd.iC (by walk_at "sc") (Rd.name (Rd.seq (Rd.asg (Rd.op (Rd.op (Rd.var (by walk_at "vr") (Rd.c (Rd.ixL (by walk_at "hpl") (by walk_at "vr") (Rd.var (by walk_at "vr") (Rd.iC (by walk_at "scd") (Rd.sub ?_)))))))))))
      with_reducible refine Rd.var (by walk_at "vr") (Rd.c (Rd.setL (by walk_at "hp") (by walk_at "ixn") (Rd.ret (Rd.var (by walk_at "vr") ?_))))
      exact k _ _ (by walk_at "sc") (by walk_at "sc") ⟨_, _, rfl, (by walk_at "sc"), (by walk_at "sc"), (by walk_at "sc")⟩
    · try simp only [decide_eq_true_eq, Bool.not_eq_true', decide_eq_false_iff_not, Bool.not_eq_true, Bool.not_eq_eq_eq_not, Bool.not_true, Bool.not_false, Int.not_lt, Int.not_le, Decidable.not_not] at h0
      with_reducible refine Rd.next (Rd.seq (Rd.asg (Rd.op (Rd.cB (Rd.cons (Rd.op (Rd.op (Rd.op (Rd.var (by walk_at "vr") (Rd.c (Rd.ixL (by walk_at "hpl") (by walk_at "vr") ?_)))))))))))
      with_reducible refine Rd.c (Rd.iC (by walk_at "scm") (Rd.c (Rd.i0 (Rd.nil ((.inl ⟨_, rfl, (Rd.c (Rd.iC (by walk_at "sc") (Rd.sub (Rd.var (by walk_at "vr") (Rd.c (Rd.setL (by walk_at "hp") (by walk_at "ixn") ?_))))))⟩))))))
      with_reducible refine Rd.seq (Rd.asg (Rd.op (Rd.op (Rd.cB (Rd.cons (Rd.op (Rd.op (Rd.var (by walk_at "vr") (Rd.c (Rd.ixL (by walk_at "hpl") (by walk_at "vr") (Rd.op ?_)))))))))))
      with_reducible refine Rd.var (by walk_at "vr") (Rd.c (Rd.ixL (by walk_at "hpl") (by walk_at "vr") (Rd.iC (by walk_at "scm") (Rd.nil ((.inl ⟨_, rfl, (Rd.c (Rd.iC (by walk_at "sc") (Rd.c (Rd.iC (by walk_at "scd") (Rd.name (Rd.seq ?_))))))⟩))))))
      with_reducible refine Rd.ifS (Rd.test (Rd.op (Rd.var (by walk_at "vr") (Rd.op (Rd.c (Rd.c (Rd.iC (by walk_at "scp") (Rd.i0 (Rd.bl ?_)))))))))
      refine Rd.ite (fun h1 => ?_) (fun h1 => ?_)
      · try simp only [decide_eq_true_eq, Bool.not_eq_true', decide_eq_false_iff_not, Bool.not_eq_true, Bool.not_eq_eq_eq_not, Bool.not_true, Bool.not_false] at h1
        with_reducible refine Rd.seq (Rd.asg (Rd.op (Rd.cB (Rd.cons (Rd.op (Rd.op (Rd.op (Rd.var (by walk_at "vr") (Rd.c (Rd.ixL (by walk_at "hpl") (by walk_at "vr") (Rd.c ?_)))))))))))
        with_reducible refine Rd.iC (by walk_at "scm") (Rd.c (Rd.i0 (Rd.nil ((.inl ⟨_, rfl, (Rd.c (Rd.iC (by walk_at "sc") (Rd.sub (Rd.var (by walk_at "vr") (Rd.c (Rd.setL (by walk_at "hp") (by walk_at "ixn") (Rd.asg ?_)))))))⟩)))))
        with_reducible refine Rd.op (Rd.op (Rd.var (by walk_at "vr") (Rd.c (Rd.iC (by walk_at "scm") (Rd.op (Rd.op (Rd.cB (Rd.cons (Rd.op (Rd.op (Rd.var (by walk_at "vr") ?_)))))))))))
        with_reducible refine Rd.c (Rd.ixL (by walk_at "hpl") (by walk_at "vr") (Rd.op (Rd.var (by walk_at "vr") (Rd.c (Rd.ixL (by walk_at "hpl") (by walk_at "vr") (Rd.iC (by walk_at "scm") (Rd.nil ((.inl ⟨_, rfl, (Rd.c (Rd.iC (by walk_at "sc") (Rd.c ?_)))⟩)))))))))
        with_reducible refine Rd.iC (by walk_at "scd") (Rd.i0 (Rd.name (Rd.ret (Rd.op (Rd.cB (Rd.cons (Rd.var (by walk_at "vr") (Rd.nil ((.inl ⟨_, rfl, (Rd.var (by walk_at "vr") (Rd.iC (by walk_at "sc") ?_))⟩))))))))))
        (repeat rw [L2.upd_upd])
        exact k _ _ (Int.emod_nonneg _ (by first | omega | decide)) (Int.emod_lt_of_pos _ hm) ⟨_, _, rfl, hx, (by first | omega | decide), (by first | omega | decide)⟩
      · try simp only [decide_eq_true_eq, Bool.not_eq_true', decide_eq_false_iff_not, Bool.not_eq_true, Bool.not_eq_eq_eq_not, Bool.not_true, Bool.not_false, Int.not_lt, Int.not_le, Decidable.not_not] at h1
        with_reducible refine Rd.next (Rd.ret (Rd.op (Rd.cB (Rd.cons (Rd.var (by walk_at "vr") (Rd.nil ((.inl ⟨_, rfl, (Rd.var (by walk_at "vr") (Rd.iC (by walk_at "sc") ?_))⟩))))))))
        (repeat rw [L2.upd_upd])
        exact k _ _ (Int.emod_nonneg _ (by first | omega | decide)) (Int.emod_lt_of_pos _ hm) ⟨_, _, rfl, hx, (by first | omega | decide), (by first | omega | decide)⟩
/-! _law_number -/
theorem sc_l_number : FnScope ["_law_source_here", "_law_most"] ["_law_source_here"] (defScope s_l_number) := ⟨rfl, rfl, rfl, by decide +kernel, rfl, by decide +kernel, by decide +kernel⟩
abbrev sp_l_number (K : PySem.W.Frag) (A : Adr) : Sp := fun vs H Q _ => ∃ (a : Addr) (o : HO), vs = [.ref a] ∧ H a = some o ∧ SrcO o ∧ ∀ (n : Int) (o' : HO) (H' : Hp), Frm a H H' → H' a = some o' → SrcO o' → (-1000000000000000000000000000000000000000000000 < n ∧ n < 1000000000000000000000000000000000000000000000) → Q (.int n) H'
theorem ok_l_number (T : Txt K mg A) : FnOk P w K mg base CX0 2 A.f_l_number A.d_l_number ["_law_source_here"] (sp_l_number K A) := by
  refine T.F_l_number.ok sc_l_number (fun vs H Q E h => ?_) (fun cdv Ar outer s H vs Q E hr h => ?_)
  · obtain ⟨a, o, rfl, ha, ho, k⟩ := h
    rfl
  · obtain ⟨a, o, rfl, ha, ho, k⟩ := h
    have hu := hu_of hr
    have t_i_Counter := T.i_Counter
    have t_kt_Counter_Counter := T.kt_Counter_Counter
    have t_kt_int_Counter := T.kt_int_Counter
    have t_nf_Counter_Counter := T.nf_Counter_Counter
    have t_nf_int_Counter := T.nf_int_Counter
    have t_k_Counter := T.k_Counter
    refine ⟨_, (pss_cons (ps_set (i := 1) sc_l_number.nd rfl (Or.inl rfl) (pe_ix ix_list (pe_lst (pa_cons pe_int (pa_cons pe_int (pa_cons (pe_op op_pow pe_int pe_int) (pa_cons (pe_op op_pow pe_int pe_int) pa_nil))))) (pe_call (ok_l_draw T) (hr.mono (by decide)) (by rfl) T.m_l_draw T.F_l_draw.kp T.b_l_draw .nil pass0 (pa_cons (pv 0) (pa_cons pe_int pa_nil))) (fun _ _ => rfl)))
      (pss_one (ps_ret (pe_op op_mulW (pe_call (ok_l_draw T) (hr.mono (by decide)) (by rfl) T.m_l_draw T.F_l_draw.kp T.b_l_draw .nil pass0 (pa_cons (pv 0) (pa_cons (pv 1) pa_nil))) (pe_ix ix_list (pe_lst (pa_cons pe_int (pa_cons (pe_un un_neg pe_int) pa_nil))) (pe_call (ok_l_draw T) (hr.mono (by decide)) (by rfl) T.m_l_draw T.F_l_draw.kp T.b_l_draw .nil pass0 (pa_cons (pv 0) (pa_cons pe_int pa_nil))) (fun _ _ => rfl)))))), ?_⟩
    try dsimp only [L2.cxOf, L2.Cx.nox, L2.Cx.wish]
    with_reducible refine Rd.seq (Rd.asg (Rd.op (Rd.lst (Rd.cons (Rd.c (Rd.cons (Rd.c (Rd.cons (Rd.op (Rd.c (Rd.c ?_)))))))))))
    with_reducible refine Rd.iC (by walk_at "scp") (Rd.cons (Rd.op (Rd.c (Rd.c (Rd.iC (by walk_at "scp") (Rd.nil (Rd.laid (by walk_at "ll") ?_)))))))
    intro p0 np0
    with_reducible refine Rd.call (Rd.cons (Rd.var (by walk_at "vr") (Rd.cons (Rd.c (Rd.nil ?_)))))
    refine ⟨_, _, _, rfl, (by walk_at "hp"), (by walk_at "sc"), (by walk_at "sc"), (by walk_at "sc"), fun d1 o1 d1a d1b s1 => ?_⟩
    refine Rd.pick (ns := [4, 100, 100000000000000000000, 1000000000000000000000000000000000000000000000]) (lo := 4) (hi := 1000000000000000000000000000000000000000000000) (by decide) (by walk_at "hpl") (by walk_at "vr") (by walk_at "sc") (by show (_ : Int) < 4; walk_at "sc") (fun n_0 m_0 na_0 nb_0 => ?_)
    with_reducible refine Rd.name (Rd.ret (Rd.op (Rd.call (Rd.cons (Rd.var (by walk_at "vr") (Rd.cons (Rd.var (by walk_at "vr") (Rd.nil ?_))))))))
    refine ⟨_, _, _, rfl, (by walk_at "hp"), (by walk_at "sc"), (by walk_at "sc"), (by walk_at "sc"), fun d2 o2 d2a d2b s2 => ?_⟩
    with_reducible refine Rd.op (Rd.lst (Rd.cons (Rd.c (Rd.cons (Rd.un (Rd.c (Rd.iU (Rd.nil (Rd.laid (by walk_at "ll") ?_)))))))))
    intro p1 np1
    with_reducible refine Rd.call (Rd.cons (Rd.var (by walk_at "vr") (Rd.cons (Rd.c (Rd.nil ?_)))))
    refine ⟨_, _, _, rfl, (by walk_at "hp"), (by walk_at "sc"), (by walk_at "sc"), (by walk_at "sc"), fun d3 o3 d3a d3b s3 => ?_⟩
    refine Rd.pick (ns := [1, -1]) (lo := -1) (hi := 1) (by decide) (by walk_at "hpl") (by walk_at "vr") (by walk_at "sc") (by show (_ : Int) < 2; walk_at "sc") (fun n_1 m_1 na_1 nb_1 => ?_)
    with_reducible refine Rd.iC (by walk_at "scm") ?_
    have sg := Rd.sgn d2a d2b m_1
    exact k _ _ _ (by walk_at "frm") (by walk_at "hp") (by walk_at "sc") (by walk_at "sc")
/-! _law_is -/
theorem sc_l_is : FnScope ["_law_counter", "_law_modulus", "_law_value"] ["_law_counter", "_law_modulus", "_law_value"] (defScope s_l_is) := ⟨rfl, rfl, rfl, by decide +kernel, rfl, by decide +kernel, by decide +kernel⟩
abbrev sp_l_is (K : PySem.W.Frag) (A : Adr) : Sp := fun vs H Q _ => ∃ (q dq : Addr) (m m' u x : Int), vs = [.ref q, .int m, .int x] ∧ H q = some (.ins A.c_Counter dq (fC m' u)) ∧ m' = m ∧ 1 ≤ m ∧ u = x % m ∧ ∀ H', Same H H' → Q (.bl true) H'
theorem ok_l_is (T : Txt K mg A) : FnOk P w K mg base CX0 3 A.f_l_is A.d_l_is ["_law_counter", "_law_modulus", "_law_value"] (sp_l_is K A) := by
  refine T.F_l_is.ok sc_l_is (fun vs H Q E h => ?_) (fun cdv Ar outer s H vs Q E hr h => ?_)
  · obtain ⟨q, dq, m, m', u, x, rfl, hq, hm, h1, hu', k⟩ := h
    rfl
  · obtain ⟨q, dq, m, m', u, x, rfl, hq, hm, h1, hu', k⟩ := h
    have hu := hu_of hr
    have t_i_Counter := T.i_Counter
    have t_kt_Counter_Counter := T.kt_Counter_Counter
    have t_kt_int_Counter := T.kt_int_Counter
    have t_nf_Counter_Counter := T.nf_Counter_Counter
    have t_nf_int_Counter := T.nf_int_Counter
    have t_k_Counter := T.k_Counter
    subst hm hu'
    refine ⟨_, (pss_cons (ps_if (PW.pt (pw_or (pt_not (pt_val (pe_callB (Rd.isi (K := K) rfl) (by rfl) T.n_isinstance (by decide +kernel) (pa_cons (pv 0) (pa_cons (pe_glob (v := .ref A.c_Counter) rfl T.m_Counter rfl) pa_nil))))) (pw_or1 (pt_val (pe_callB (Rd.isi (K := K) rfl) (by rfl) T.n_isinstance (by decide +kernel) (pa_cons (pe_prop (pv 0) T.k_Counter T.R_Counter_value (ok_Counter_value T) (hr.mono (by decide)) T.b_Counter_value .nil pass0 rfl) (pa_cons (pe_bltn (v := .ty "bool") (u := .type "bool") (by rfl) T.n_bool (by decide +kernel) rfl) pa_nil))))))) (pss_one (ps_ret pe_bl)) pss_nil)
      (pss_one (ps_ret (pe_cmpR (op_eqD hr.units) (pe_tup (pa_cons (pe_fld (pv 0) rfl) (pa_cons (pe_prop (pv 0) T.k_Counter T.R_Counter_value (ok_Counter_value T) (hr.mono (by decide)) T.b_Counter_value .nil pass0 rfl) pa_nil))) (pe_tup (pa_cons (pv 1) (pa_cons (pe_op op_mod (pe_callTy call_int1 (by rfl) T.n_int (by decide +kernel) (pa_cons (pv 2) pa_nil)) (pv 1)) pa_nil))) (nomark _))))), ?_⟩
    try dsimp only [L2.cxOf, L2.Cx.nox, L2.Cx.wish]
    with_reducible refine Rd.seq (Rd.ifS (Rd.or (Rd.not (Rd.tb (Rd.cB (Rd.cons (Rd.var (by walk_at "vr") (Rd.cons (Rd.c (Rd.nil ?_))))))))))
    refine ⟨_, _, _, _, _, rfl, (by walk_at "clsv"), (by walk_at "tyx"), (by walk_at "kit"), ?_⟩
    with_reducible refine Rd.bl (Rd.iteF (by walk_at "bF") (Rd.tb (Rd.cB (Rd.cons (Rd.prop (Rd.var (by walk_at "vr") (⟨_, _, _, rfl, (by walk_at "hp"), ?_⟩)))))))
    refine ⟨_, _, _, _, rfl, (by walk_at "hp"), ?_⟩
    with_reducible refine Rd.cons (Rd.c (Rd.nil ?_))
    refine ⟨_, _, _, _, _, rfl, (by walk_at "clsv"), (by walk_at "tyx"), (by walk_at "kit"), ?_⟩
    with_reducible refine Rd.bl (Rd.iteF (by walk_at "bF") (Rd.next (Rd.ret (Rd.op (Rd.tup (Rd.cons (Rd.fld (Rd.var (by walk_at "vr") (⟨_, _, _, _, _, rfl, (by walk_at "hp"), T.k_Counter, T.n_Counter_modulus, (by walk_at "lk"), (Rd.cons (Rd.prop ?_))⟩)))))))))
    with_reducible refine Rd.var (by walk_at "vr") (⟨_, _, _, rfl, (by walk_at "hp"), ?_⟩)
    refine ⟨_, _, _, _, rfl, (by walk_at "hp"), ?_⟩
    with_reducible refine Rd.nil (Rd.laid (by walk_at "ll") ?_)
    intro p0 np0
    with_reducible refine Rd.tup (Rd.cons (Rd.var (by walk_at "vr") (Rd.cons (Rd.op (Rd.cB (Rd.cons (Rd.var (by walk_at "vr") (Rd.nil ((.inl ⟨_, rfl, (Rd.var (by walk_at "vr") (Rd.iC (by walk_at "sc") ?_))⟩))))))))))
    with_reducible refine Rd.nil (Rd.laid (by walk_at "ll") ?_)
    intro p1 np1
    refine ⟨_, _, (by walk_at "dpt"), (by walk_at "dpt"), (by walk_at "shp"), (by walk_at "shp"), ?_⟩
    rw [Rd.eqv_pairV, decide_eq_true rfl, decide_eq_true rfl]
    exact k _ (by walk_at "frm")
/-! _law_stepped -/
theorem sc_l_stepped : FnScope ["_law_modulus", "_law_value", "_law_step", "_law_counter", "_law_same"] ["_law_modulus", "_law_value", "_law_step"] (defScope s_l_stepped) := ⟨rfl, rfl, rfl, by decide +kernel, rfl, by decide +kernel, by decide +kernel⟩
abbrev sp_l_stepped (K : PySem.W.Frag) (A : Adr) : Sp := fun vs H Q _ => ∃ (m x s : Int), vs = [.int m, .int x, .int s] ∧ 1 ≤ m ∧ m ≤ 10000000000000000000000000000000000000000 ∧ (-1000000000000000000000000000000000000000000000 < s ∧ s < 1000000000000000000000000000000000000000000000) ∧ ∀ H', Same H H' → Q (.bl true) H'
theorem ok_l_stepped (T : Txt K mg A) : FnOk P w K mg base CX0 7 A.f_l_stepped A.d_l_stepped ["_law_modulus", "_law_value", "_law_step"] (sp_l_stepped K A) := by
  refine T.F_l_stepped.ok sc_l_stepped (fun vs H Q E h => ?_) (fun cdv Ar outer s H vs Q E hr h => ?_)
  · obtain ⟨m, x, s, rfl, h1, h2, hs, k⟩ := h
    rfl
  · obtain ⟨m, x, s, rfl, h1, h2, hs, k⟩ := h
    have hu := hu_of hr
    have t_i_Counter := T.i_Counter
    have t_kt_Counter_Counter := T.kt_Counter_Counter
    have t_kt_int_Counter := T.kt_int_Counter
    have t_nf_Counter_Counter := T.nf_Counter_Counter
    have t_nf_int_Counter := T.nf_int_Counter
    have t_k_Counter := T.k_Counter
    have e1 := Int.emod_nonneg x (show m ≠ 0 by omega)
    have e2 := Int.emod_lt_of_pos x (show 0 < m by omega)
    refine ⟨_, (pss_cons (ps_set (i := 3) sc_l_stepped.nd rfl (Or.inl rfl) (pe_make T.K_Counter (ok_Counteru__initu_ T) (hr.mono (by decide)) (by rfl) T.m_Counter T.b_Counteru__initu_ .nil pass0 (pa_cons (pv 0) (pa_cons (pv 1) pa_nil))))
      (pss_cons (ps_set (i := 4) sc_l_stepped.nd rfl (Or.inl rfl) (pv 3))
      (pss_cons (ps_if (pt_not (pt_val (pe_call (ok_l_is T) (hr.mono (by decide)) (by rfl) T.m_l_is T.F_l_is.kp T.b_l_is .nil pass0 (pa_cons (pe_op (Own.opT (op := .Add) (ok_Counteru__addu_ T) (hr.mono (by decide)) T.O_Counteru__addu__T T.b_Counteru__addu_ pass0) (pv 3) (pv 2)) (pa_cons (pv 0) (pa_cons (pe_op op_add (pv 1) (pv 2)) pa_nil)))))) (pss_one (ps_ret pe_bl)) pss_nil)
      (pss_cons (ps_if (pt_not (pt_val (pe_call (ok_l_is T) (hr.mono (by decide)) (by rfl) T.m_l_is T.F_l_is.kp T.b_l_is .nil pass0 (pa_cons (pe_op (Own.opRadd (ok_Counteru__raddu_ T) (hr.mono (by decide)) T.O_Counteru__raddu__R T.b_Counteru__raddu_ pass0) (pv 2) (pv 3)) (pa_cons (pv 0) (pa_cons (pe_op op_add (pv 1) (pv 2)) pa_nil)))))) (pss_one (ps_ret pe_bl)) pss_nil)
      (pss_cons (ps_if (pt_not (pt_val (pe_call (ok_l_is T) (hr.mono (by decide)) (by rfl) T.m_l_is T.F_l_is.kp T.b_l_is .nil pass0 (pa_cons (pe_op (Own.opT (op := .Sub) (ok_Counteru__subu_ T) (hr.mono (by decide)) T.O_Counteru__subu__T T.b_Counteru__subu_ pass0) (pv 3) (pv 2)) (pa_cons (pv 0) (pa_cons (pe_op op_sub (pv 1) (pv 2)) pa_nil)))))) (pss_one (ps_ret pe_bl)) pss_nil)
      (pss_cons (ps_if (pt_not (pt_val (pe_call (ok_l_is T) (hr.mono (by decide)) (by rfl) T.m_l_is T.F_l_is.kp T.b_l_is .nil pass0 (pa_cons (pv 3) (pa_cons (pv 0) (pa_cons (pv 1) pa_nil)))))) (pss_one (ps_ret pe_bl)) pss_nil)
      (pss_cons (ps_aug (i := 3) sc_l_stepped.nd rfl (Or.inl rfl) (pv 2) (Own.pip (Own.iopT (op := .Add) (ok_Counteru__iaddu_ T) (hr.mono (by decide)) T.O_Counteru__iaddu__I.1 T.O_Counteru__iaddu__I.2 T.b_Counteru__iaddu_ pass0)))
      (pss_cons (ps_if (pt_not (pt_val (pe_call (ok_l_is T) (hr.mono (by decide)) (by rfl) T.m_l_is T.F_l_is.kp T.b_l_is .nil pass0 (pa_cons (pv 3) (pa_cons (pv 0) (pa_cons (pe_op op_add (pv 1) (pv 2)) pa_nil)))))) (pss_one (ps_ret pe_bl)) pss_nil)
      (pss_cons (ps_if (pt_not (pt_val (pe_call (ok_l_is T) (hr.mono (by decide)) (by rfl) T.m_l_is T.F_l_is.kp T.b_l_is .nil pass0 (pa_cons (pv 4) (pa_cons (pv 0) (pa_cons (pe_op op_add (pv 1) (pv 2)) pa_nil)))))) (pss_one (ps_ret pe_bl)) pss_nil)
      (pss_cons (ps_aug (i := 3) sc_l_stepped.nd rfl (Or.inl rfl) (pe_op op_add (pe_op op_mulW pe_int (pv 2)) pe_int) (Own.pip (Own.iopT (op := .Sub) (ok_Counteru__isubu_ T) (hr.mono (by decide)) T.O_Counteru__isubu__I.1 T.O_Counteru__isubu__I.2 T.b_Counteru__isubu_ pass0)))
      (pss_cons (ps_if (PW.pt (pw_or (pt_not (pt_val (pe_call (ok_l_is T) (hr.mono (by decide)) (by rfl) T.m_l_is T.F_l_is.kp T.b_l_is .nil pass0 (pa_cons (pv 4) (pa_cons (pv 0) (pa_cons (pe_op op_sub (pe_op op_sub (pv 1) (pv 2)) pe_int) pa_nil)))))) (pw_or1 (pt_not (pt_cmpR (Own.cmp (cop := .Eq) (ok_Counteru__equ_ T) (hr.mono (by decide)) T.O_Counteru__equ__1 T.b_Counteru__equ_ pass0) (pv 3) (pv 4) (nomark _)))))) (pss_one (ps_ret pe_bl)) pss_nil)
      (pss_cons (ps_expr (pe_meth (pv 4) T.k_Counter T.M_Counter_change (ok_Counter_change T) (hr.mono (by decide)) T.b_Counter_change .nil pass0 (pa_cons (pe_op op_mod (pe_callTy call_int1 (by rfl) T.n_int (by decide +kernel) (pa_cons (pv 1) pa_nil)) (pv 0)) pa_nil)))
      (pss_one (ps_ret (pe_call (ok_l_is T) (hr.mono (by decide)) (by rfl) T.m_l_is T.F_l_is.kp T.b_l_is .nil pass0 (pa_cons (pv 3) (pa_cons (pv 0) (pa_cons (pv 1) pa_nil)))))))))))))))))), ?_⟩
    try dsimp only [L2.cxOf, L2.Cx.nox, L2.Cx.wish]
    with_reducible refine Rd.seq (Rd.asg (Rd.make (Rd.cons (Rd.var (by walk_at "vr") (Rd.cons (Rd.var (by walk_at "vr") (Rd.nil ?_)))))))
    intro x1 dx1 nx1 ndx1 ne1
    refine ⟨_, _, _, _, rfl, L2.upd_same, (by walk_at "sc"), (by walk_at "sc"), ?_⟩
    refine ⟨rfl, ?_⟩
    rw [L2.upd_upd]
    with_reducible refine Rd.name (Rd.seq (Rd.asg (Rd.var (by walk_at "vr") (Rd.name (Rd.seq (Rd.ifS (Rd.not (Rd.tb (Rd.call (Rd.cons (Rd.op ?_)))))))))))
    with_reducible refine Rd.var (by walk_at "vr") (Rd.var (by walk_at "vr") (Own.opT2 (by walk_at "hp") (by walk_at "ty0") ?_))
    refine ⟨_, _, _, _, _, rfl, (by walk_at "hp"), (by walk_at "sc"), (by walk_at "sc"), fun q2 dq2 H2 S2 r2 => ?_⟩
    with_reducible refine Rd.cons (Rd.var (by walk_at "vr") (Rd.cons (Rd.op (Rd.var (by walk_at "vr") (Rd.var (by walk_at "vr") (Rd.i0 (Rd.nil ?_)))))))
    refine ⟨_, _, _, _, _, _, rfl, (by walk_at "hp"), rfl, (by walk_at "sc"), (by walk_at "em"), fun H3 S3 => ?_⟩
    with_reducible refine Rd.bl (Rd.iteF (by walk_at "bF") (Rd.next (Rd.seq (Rd.ifS (Rd.not (Rd.tb (Rd.call (Rd.cons (Rd.op (Rd.var (by walk_at "vr") (Rd.var (by walk_at "vr") ?_)))))))))))
    with_reducible refine Own.opR2 (by walk_at "hp") ?_
    refine ⟨_, _, _, _, _, rfl, (by walk_at "hp"), (by walk_at "sc"), (by walk_at "sc"), fun q4 dq4 H4 S4 r4 => ?_⟩
    with_reducible refine Rd.cons (Rd.var (by walk_at "vr") (Rd.cons (Rd.op (Rd.var (by walk_at "vr") (Rd.var (by walk_at "vr") (Rd.i0 (Rd.nil ?_)))))))
    refine ⟨_, _, _, _, _, _, rfl, (by walk_at "hp"), rfl, (by walk_at "sc"), (by walk_at "em"), fun H5 S5 => ?_⟩
    with_reducible refine Rd.bl (Rd.iteF (by walk_at "bF") (Rd.next (Rd.seq (Rd.ifS (Rd.not (Rd.tb (Rd.call (Rd.cons (Rd.op (Rd.var (by walk_at "vr") (Rd.var (by walk_at "vr") ?_)))))))))))
    with_reducible refine Own.opT2 (by walk_at "hp") (by walk_at "ty0") ?_
    refine ⟨_, _, _, _, _, rfl, (by walk_at "hp"), (by walk_at "sc"), (by walk_at "sc"), .inr ⟨_, rfl, fun q6 dq6 H6 S6 r6 => ?_⟩⟩
    with_reducible refine Rd.cons (Rd.var (by walk_at "vr") (Rd.cons (Rd.op (Rd.var (by walk_at "vr") (Rd.var (by walk_at "vr") (Rd.i0 (Rd.nil ?_)))))))
    refine ⟨_, _, _, _, _, _, rfl, (by walk_at "hp"), rfl, (by walk_at "sc"), (by walk_at "em"), fun H7 S7 => ?_⟩
    with_reducible refine Rd.bl (Rd.iteF (by walk_at "bF") (Rd.next (Rd.seq (Rd.ifS (Rd.not (Rd.tb (Rd.call (Rd.cons (Rd.var (by walk_at "vr") (Rd.cons (Rd.var (by walk_at "vr") ?_)))))))))))
    with_reducible refine Rd.cons (Rd.var (by walk_at "vr") (Rd.nil ?_))
    refine ⟨_, _, _, _, _, _, rfl, (by walk_at "hp"), rfl, (by walk_at "sc"), (by walk_at "em"), fun H8 S8 => ?_⟩
    with_reducible refine Rd.bl (Rd.iteF (by walk_at "bF") (Rd.next (Rd.seq (Rd.aug (by walk_at "vr") (Rd.var (by walk_at "vr") (Own.iop2 (by walk_at "hp") ?_))))))
    refine ⟨_, _, _, _, _, rfl, (by walk_at "hp"), (by walk_at "sc"), (by walk_at "sc"), ?_⟩
    with_reducible refine Rd.seq (Rd.ifS (Rd.not (Rd.tb (Rd.call (Rd.cons (Rd.var (by walk_at "vr") (Rd.cons (Rd.var (by walk_at "vr") (Rd.cons (Rd.op (Rd.var (by walk_at "vr") ?_)))))))))))
    with_reducible refine Rd.var (by walk_at "vr") (Rd.i0 (Rd.nil ?_))
    refine ⟨_, _, _, _, _, _, rfl, (by walk_at "hp"), rfl, (by walk_at "sc"), (by walk_at "em"), fun H10 S10 => ?_⟩
    with_reducible refine Rd.bl (Rd.iteF (by walk_at "bF") (Rd.next (Rd.seq (Rd.ifS (Rd.not (Rd.tb (Rd.call (Rd.cons (Rd.var (by walk_at "vr") (Rd.cons (Rd.var (by walk_at "vr") ?_)))))))))))
    with_reducible refine Rd.cons (Rd.op (Rd.var (by walk_at "vr") (Rd.var (by walk_at "vr") (Rd.i0 (Rd.nil ?_)))))
    refine ⟨_, _, _, _, _, _, rfl, (by walk_at "hp"), rfl, (by walk_at "sc"), (by walk_at "em"), fun H11 S11 => ?_⟩
    with_reducible refine Rd.bl (Rd.iteF (by walk_at "bF") (Rd.next (Rd.seq (Rd.aug (by walk_at "vr") (Rd.op (Rd.op (Rd.c (Rd.var (by walk_at "vr") (Rd.iC (by walk_at "scm") (Rd.c (Rd.i0 ?_)))))))))))
    with_reducible refine Own.iop2 (by walk_at "hp") ?_
    refine ⟨_, _, _, _, _, rfl, (by walk_at "hp"), (by walk_at "sc"), (by walk_at "sc"), ?_⟩
    with_reducible refine Rd.seq (Rd.ifS (Rd.or (Rd.not (Rd.tb (Rd.call (Rd.cons (Rd.var (by walk_at "vr") (Rd.cons (Rd.var (by walk_at "vr") (Rd.cons (Rd.op ?_)))))))))))
    with_reducible refine Rd.op (Rd.var (by walk_at "vr") (Rd.var (by walk_at "vr") (Rd.i0 (Rd.c (Rd.i0 (Rd.nil ?_))))))
    refine ⟨_, _, _, _, _, _, rfl, (by walk_at "hp"), rfl, (by walk_at "sc"), (by walk_at "em"), fun H13 S13 => ?_⟩
    with_reducible refine Rd.bl (Rd.iteF (by walk_at "bF") (Rd.not (Rd.test (Rd.op (Rd.var (by walk_at "vr") (Rd.var (by walk_at "vr") (Own.cmp2 (by walk_at "hp") (by walk_at "tyx") (by walk_at "nf") ?_)))))))
    refine ⟨_, _, _, _, _, rfl, (by walk_at "hp"), .inl ⟨_, _, _, _, rfl, (by walk_at "hp"), ?_⟩⟩
    with_reducible refine Rd.bl (Rd.iteF (by walk_at "bF") (Rd.next (Rd.seq (Rd.drop (Rd.meth (Rd.var (by walk_at "vr") (⟨_, _, _, rfl, (by walk_at "hp"), (by walk_at "lk"), (Rd.cons (Rd.op (Rd.cB (Rd.cons ?_))))⟩)))))))
    with_reducible refine Rd.var (by walk_at "vr") (Rd.nil ((.inl ⟨_, rfl, (Rd.var (by walk_at "vr") (Rd.iC (by walk_at "sc") (Rd.nil ?_)))⟩)))
    refine ⟨_, _, _, _, _, rfl, (by walk_at "hp"), (by walk_at "sc"), (by walk_at "sc"), ?_⟩
    with_reducible refine Rd.ret (Rd.call (Rd.cons (Rd.var (by walk_at "vr") (Rd.cons (Rd.var (by walk_at "vr") (Rd.cons (Rd.var (by walk_at "vr") (Rd.nil ?_))))))))
    refine ⟨_, _, _, _, _, _, rfl, (by walk_at "hp"), rfl, (by walk_at "sc"), (by walk_at "em"), fun H16 S16 => ?_⟩
    exact k _ (by walk_at "frm")
/-! _law_made_of -/
theorem sc_l_made_of : FnScope ["_law_modulus", "_law_value", "_law_divisor", "_law_mask", "_law_counter", "_law_due", "_law_told", "_law_number_here"] ["_law_modulus", "_law_value", "_law_divisor", "_law_mask"] (defScope s_l_made_of) := ⟨rfl, rfl, rfl, by decide +kernel, rfl, by decide +kernel, by decide +kernel⟩
abbrev sp_l_made_of (K : PySem.W.Frag) (A : Adr) : Sp := fun vs H Q _ => ∃ (m x d i : Int), vs = [.int m, .int x, .int d, .int i] ∧ 1 ≤ m ∧ m ≤ 10000000000000000000000000000000000000000 ∧ (1 ≤ d ∧ d < 2 ^ 190) ∧ 0 ≤ i ∧ ∀ H', Same H H' → Q (.bl true) H'
theorem ok_l_made_of (T : Txt K mg A) : FnOk P w K mg base CX0 5 A.f_l_made_of A.d_l_made_of ["_law_modulus", "_law_value", "_law_divisor", "_law_mask"] (sp_l_made_of K A) := by
  refine T.F_l_made_of.ok sc_l_made_of (fun vs H Q E h => ?_) (fun cdv Ar outer s H vs Q E hr h => ?_)
  · obtain ⟨m, x, d, i, rfl, h1, h2, hd, hi, k⟩ := h
    rfl
  · obtain ⟨m, x, d, i, rfl, h1, h2, hd, hi, k⟩ := h
    have hu := hu_of hr
    have t_i_Counter := T.i_Counter
    have t_kt_Counter_Counter := T.kt_Counter_Counter
    have t_kt_int_Counter := T.kt_int_Counter
    have t_nf_Counter_Counter := T.nf_Counter_Counter
    have t_nf_int_Counter := T.nf_int_Counter
    have t_k_Counter := T.k_Counter
    refine ⟨_, (pss_cons (ps_set (i := 4) sc_l_made_of.nd rfl (Or.inl rfl) (pe_make T.K_Counter (ok_Counteru__initu_ T) (hr.mono (by decide)) (by rfl) T.m_Counter T.b_Counteru__initu_ .nil pass0 (pa_cons (pv 0) (pa_cons (pv 1) pa_nil))))
      (pss_cons (ps_set (i := 5) sc_l_made_of.nd rfl (Or.inl rfl) (pe_op op_mod (pe_callTy call_int1 (by rfl) T.n_int (by decide +kernel) (pa_cons (pv 1) pa_nil)) (pv 0)))
      (pss_cons (ps_set (i := 6) sc_l_made_of.nd rfl (Or.inl rfl) (pe_lst (pa_cons (pe_op (Own.opT (op := .Mod) (ok_Counteru__modu_ T) (hr.mono (by decide)) T.O_Counteru__modu__T T.b_Counteru__modu_ pass0) (pv 4) (pv 2)) (pa_cons (pe_op (Own.opT (op := .FloorDiv) (ok_Counteru__floordivu_ T) (hr.mono (by decide)) T.O_Counteru__floordivu__T T.b_Counteru__floordivu_ pass0) (pv 4) (pv 2)) (pa_cons (pe_op (Own.opT (op := .BitAnd) (ok_Counteru__andu_ T) (hr.mono (by decide)) T.O_Counteru__andu__T T.b_Counteru__andu_ pass0) (pv 4) (pv 3)) pa_nil)))))
      (pss_cons (ps_if (pt_cmpR (op_neD hr.units) (pe_lc (own := [("_law_number_here", 7)]) (g := gName 7) rfl sc_l_made_of.nd (pi_list (pv 6)) (blkOk_by (own := [("_law_number_here", 7)]) (N := ["_law_modulus", "_law_value", "_law_divisor", "_law_mask", "_law_counter", "_law_due", "_law_told", "_law_number_here"]) (sc := defScope s_l_made_of) (by decide +kernel)) (fun _ _ _ _ _ => pg_name (i := 7) sc_l_made_of.nd rfl (Or.inl rfl)) (fun _ _ _ _ _ => pts_one (PW.pt (pw_or (pt_val (pe_callB (Rd.isi (K := K) rfl) (by rfl) T.n_isinstance (by decide +kernel) (pa_cons (pv 7) (pa_cons (pe_bltn (v := .ty "bool") (u := .type "bool") (by rfl) T.n_bool (by decide +kernel) rfl) pa_nil)))) (pw_or1 (pt_not (pt_val (pe_callB (Rd.isi (K := K) rfl) (by rfl) T.n_isinstance (by decide +kernel) (pa_cons (pv 7) (pa_cons (pe_bltn (v := .ty "int") (u := .type "int") (by rfl) T.n_int (by decide +kernel) rfl) pa_nil))))))))) (fun _ _ _ _ _ => (pv 7))) (pe_lst pa_nil) (nomark _)) (pss_one (ps_ret pe_bl)) pss_nil)
      (pss_one (ps_ret (pe_and (pe_cmpR (op_eqD hr.units) (pv 6) (pe_lst (pa_cons (pe_op op_mod (pe_callTy call_int1 (by rfl) T.n_int (by decide +kernel) (pa_cons (pv 5) pa_nil)) (pv 2)) (pa_cons (pe_op op_fdivW (pv 5) (pv 2)) (pa_cons (pe_op op_and (pv 5) (pv 3)) pa_nil)))) (nomark _)) (pe_one (pe_call (ok_l_is T) (hr.mono (by decide)) (by rfl) T.m_l_is T.F_l_is.kp T.b_l_is .nil pass0 (pa_cons (pv 4) (pa_cons (pv 0) (pa_cons (pv 1) pa_nil)))))))))))), ?_⟩
    try dsimp only [L2.cxOf, L2.Cx.nox, L2.Cx.wish]
    with_reducible refine Rd.seq (Rd.asg (Rd.make (Rd.cons (Rd.var (by walk_at "vr") (Rd.cons (Rd.var (by walk_at "vr") (Rd.nil ?_)))))))
    intro x1 dx1 nx1 ndx1 ne1
    refine ⟨_, _, _, _, rfl, L2.upd_same, (by walk_at "sc"), (by walk_at "sc"), ?_⟩
    refine ⟨rfl, ?_⟩
    rw [L2.upd_upd]
    with_reducible refine Rd.name (Rd.seq (Rd.asg (Rd.op (Rd.cB (Rd.cons (Rd.var (by walk_at "vr") (Rd.nil ((.inl ⟨_, rfl, (Rd.var (by walk_at "vr") (Rd.iC (by walk_at "sc") (Rd.name ?_)))⟩)))))))))
    with_reducible refine Rd.seq (Rd.asg (Rd.lst (Rd.cons (Rd.op (Rd.var (by walk_at "vr") (Rd.var (by walk_at "vr") (Own.opT2 (by walk_at "hp") (by walk_at "ty0") ?_)))))))
    refine ⟨_, _, _, _, _, rfl, (by walk_at "hp"), (by walk_at "sc"), (by walk_at "sc"), ?_⟩
    with_reducible refine Rd.cons (Rd.op (Rd.var (by walk_at "vr") (Rd.var (by walk_at "vr") (Own.opT2 (by walk_at "hp") (by walk_at "ty0") ?_))))
    refine ⟨_, _, _, _, _, rfl, (by walk_at "hp"), (by walk_at "sc"), (by walk_at "sc"), ?_⟩
    with_reducible refine Rd.cons (Rd.op (Rd.var (by walk_at "vr") (Rd.var (by walk_at "vr") (Own.opT2 (by walk_at "hp") (by walk_at "ty0") ?_))))
    refine ⟨_, _, _, _, _, rfl, (by walk_at "hp"), (by walk_at "sc"), ?_⟩
    with_reducible refine Rd.nil (Rd.laid (by walk_at "ll") ?_)
    intro p0 np0
    with_reducible refine Rd.name (Rd.seq (Rd.ifS (Rd.test (Rd.op ?_))))
    refine Rd.lcNone (by walk_at "vr") (by walk_at "hpl") (by intro _; rfl) (fun n hnn H1 S1 R1 k1 => ?lca1) (fun p1 H1 np1 S1 hp1 => ?_)
    case lca1 =>
      obtain ⟨i, rfl⟩ : ∃ i : Int, n = V.int i := by
        simp only [List.mem_cons, List.not_mem_nil, or_false] at hnn
        rcases hnn with rfl | rfl | rfl <;> exact ⟨_, rfl⟩
      with_reducible refine Rd.or (Rd.tb (Rd.cB (Rd.cons (Rd.var (by walk_at "vr") (Rd.cons (Rd.c (Rd.nil ?_)))))))
      refine ⟨_, _, _, _, _, rfl, (by walk_at "clsv"), (by walk_at "tyx"), (by walk_at "kit"), ?_⟩
      with_reducible refine Rd.bl (Rd.iteF (by walk_at "bF") (Rd.not (Rd.tb (Rd.cB (Rd.cons (Rd.var (by walk_at "vr") (Rd.cons (Rd.c (Rd.nil ?_)))))))))
      refine ⟨_, _, _, _, _, rfl, (by walk_at "clsv"), (by walk_at "tyx"), (by walk_at "kit"), ?_⟩
      with_reducible refine Rd.bl ?_
      exact k1 _ (Same.refl _)
    rotate_left 0
    with_reducible refine Rd.lst (Rd.nil (Rd.laid (by walk_at "ll") ?_))
    intro p2 np2
    refine ⟨_, _, (by walk_at "dp"), (by walk_at "dp"), (by walk_at "shp"), (by walk_at "shp"), ?_⟩
    with_reducible refine Rd.bl (Rd.iteF (by walk_at "bF") (Rd.next (Rd.ret (Rd.andV (Rd.op (Rd.var (by walk_at "vr") (Rd.lst (Rd.cons (Rd.op (Rd.cB (Rd.cons ?_)))))))))))
    with_reducible refine Rd.var (by walk_at "vr") (Rd.nil ((.inl ⟨_, rfl, (Rd.var (by walk_at "vr") (Rd.iC (by walk_at "sc") (Rd.cons (Rd.op (Rd.var (by walk_at "vr") (Rd.var (by walk_at "vr") (Rd.iC (by walk_at "scd") (Rd.cons (Rd.op ?_)))))))))⟩)))
    with_reducible refine Rd.var (by walk_at "vr") (Rd.var (by walk_at "vr") (Rd.i0 (Rd.nil (Rd.laid (by walk_at "ll") ?_))))
    intro p3 np3
    refine ⟨_, _, (by walk_at "dp"), (by walk_at "dp"), (by walk_at "shp"), (by walk_at "shp"), ?_⟩
    with_reducible refine Rd.bl (Rd.iteT (by walk_at "bT") (Rd.call (Rd.cons (Rd.var (by walk_at "vr") (Rd.cons (Rd.var (by walk_at "vr") (Rd.cons (Rd.var (by walk_at "vr") (Rd.nil ?_)))))))))
    refine ⟨_, _, _, _, _, _, rfl, (by walk_at "hp"), rfl, (by walk_at "sc"), (by walk_at "em"), fun H5 S5 => ?_⟩
    exact k _ (by walk_at "frm")
/-! law -/
theorem sc_law : FnScope ["_law_script", "_law_turn", "_law_source_here", "_law_modulus", "_law_value", "_law_other", "_law_one", "_law_two"] ["_law_script"] (defScope s_law) := ⟨rfl, rfl, rfl, by decide +kernel, rfl, by decide +kernel, by decide +kernel⟩
abbrev sp_law (K : PySem.W.Frag) : Sp := fun vs H Q _ => ∃ (a : Addr) (ns : List Int), vs = [.ref a] ∧ SqL K H a (ns.map V.int) ∧ ns.length ≤ 63 ∧ ∀ H', Q (.bl true) H'
theorem ok_law (T : Txt K mg A) : FnOk P w K mg base CX0 8 A.f_law A.d_law ["_law_script"] (sp_law K) := by
  refine T.F_law.ok sc_law (fun vs H Q E h => ?_) (fun cdv Ar outer s H vs Q E hr h => ?_)
  · obtain ⟨a, ns, rfl, hS, hlen, k⟩ := h
    rfl
  · obtain ⟨a, ns, rfl, hS, hlen, k⟩ := h
    have hu := hu_of hr
    have t_i_Counter := T.i_Counter
    have t_kt_Counter_Counter := T.kt_Counter_Counter
    have t_kt_int_Counter := T.kt_int_Counter
    have t_nf_Counter_Counter := T.nf_Counter_Counter
    have t_nf_int_Counter := T.nf_int_Counter
    have t_k_Counter := T.k_Counter
    refine ⟨_, (pss_cons (ps_for PassesOwn.never rfl (pi_range1 (by rfl) T.n_range (pa_cons (pe_callB (call_max2 rfl) (by rfl) T.n_max (by decide +kernel) (pa_cons pe_int (pa_cons (pe_callB (call_min2 rfl) (by rfl) T.n_min (by decide +kernel) (pa_cons (pe_callB call_len_seq (by rfl) T.n_len PySem.boot_len (pa_cons (pv 0) pa_nil)) (pa_cons pe_int pa_nil))) pa_nil))) pa_nil)) (pg_name (i := 1) sc_law.nd rfl (Or.inl rfl)) (pss_cons (ps_set (i := 2) sc_law.nd rfl (Or.inl rfl) (pe_call (ok_l_source T) (hr.mono (by decide)) (by rfl) T.m_l_source T.F_l_source.kp T.b_l_source .nil pass0 (pa_cons (pv 0) (pa_cons (pv 1) pa_nil))))
      (pss_cons (ps_set (i := 3) sc_law.nd rfl (Or.inl rfl) (pe_op op_add pe_int (pe_call (ok_l_draw T) (hr.mono (by decide)) (by rfl) T.m_l_draw T.F_l_draw.kp T.b_l_draw .nil pass0 (pa_cons (pv 2) (pa_cons (pe_ix ix_list (pe_lst (pa_cons pe_int (pa_cons pe_int (pa_cons (pe_op op_sub (pe_op op_pow pe_int pe_int) pe_int) pa_nil)))) (pe_call (ok_l_draw T) (hr.mono (by decide)) (by rfl) T.m_l_draw T.F_l_draw.kp T.b_l_draw .nil pass0 (pa_cons (pv 2) (pa_cons pe_int pa_nil))) (fun _ _ => rfl)) pa_nil)))))
      (pss_cons (ps_par (by rfl) sc_law.nd (i := 4) (j := 5) rfl rfl (by decide) rfl rfl (pa_cons (pe_call (ok_l_number T) (hr.mono (by decide)) (by rfl) T.m_l_number T.F_l_number.kp T.b_l_number .nil pass0 (pa_cons (pv 2) pa_nil)) (pa_cons (pe_call (ok_l_number T) (hr.mono (by decide)) (by rfl) T.m_l_number T.F_l_number.kp T.b_l_number .nil pass0 (pa_cons (pv 2) pa_nil)) pa_nil)) (by rfl))
      (pss_cons (ps_if (pt_not (pt_val (pe_call (ok_l_is T) (hr.mono (by decide)) (by rfl) T.m_l_is T.F_l_is.kp T.b_l_is .nil pass0 (pa_cons (pe_make T.K_Counter (ok_Counteru__initu_ T) (hr.mono (by decide)) (by rfl) T.m_Counter (T.e_Counteru__initu_1).choose_spec.2 (T.e_Counteru__initu_1).choose_spec.1 pass0 (pa_cons (pv 3) pa_nil)) (pa_cons (pv 3) (pa_cons pe_int pa_nil)))))) (pss_one (ps_ret pe_bl)) pss_nil)
      (pss_cons (ps_if (pt_not (pt_val (pe_call (ok_l_is T) (hr.mono (by decide)) (by rfl) T.m_l_is T.F_l_is.kp T.b_l_is .nil pass0 (pa_cons (pe_make T.K_Counter (ok_Counteru__initu_ T) (hr.mono (by decide)) (by rfl) T.m_Counter T.b_Counteru__initu_ .nil pass0 (pa_cons (pv 3) (pa_cons (pv 4) pa_nil))) (pa_cons (pv 3) (pa_cons (pv 4) pa_nil)))))) (pss_one (ps_ret pe_bl)) pss_nil)
      (pss_cons (ps_if (pt_not (pt_val (pe_call (ok_l_stepped T) (hr.mono (by decide)) (by rfl) T.m_l_stepped T.F_l_stepped.kp T.b_l_stepped .nil pass0 (pa_cons (pv 3) (pa_cons (pv 4) (pa_cons (pe_call (ok_l_number T) (hr.mono (by decide)) (by rfl) T.m_l_number T.F_l_number.kp T.b_l_number .nil pass0 (pa_cons (pv 2) pa_nil)) pa_nil)))))) (pss_one (ps_ret pe_bl)) pss_nil)
      (pss_cons (ps_if (pt_not (pt_val (pe_call (ok_l_made_of T) (hr.mono (by decide)) (by rfl) T.m_l_made_of T.F_l_made_of.kp T.b_l_made_of .nil pass0 (pa_cons (pv 3) (pa_cons (pv 4) (pa_cons (pe_op op_add pe_int (pe_callB call_abs (by rfl) T.n_abs (by decide +kernel) (pa_cons (pe_call (ok_l_number T) (hr.mono (by decide)) (by rfl) T.m_l_number T.F_l_number.kp T.b_l_number .nil pass0 (pa_cons (pv 2) pa_nil)) pa_nil))) (pa_cons (pe_callB call_abs (by rfl) T.n_abs (by decide +kernel) (pa_cons (pe_call (ok_l_number T) (hr.mono (by decide)) (by rfl) T.m_l_number T.F_l_number.kp T.b_l_number .nil pass0 (pa_cons (pv 2) pa_nil)) pa_nil)) pa_nil))))))) (pss_one (ps_ret pe_bl)) pss_nil)
      (pss_cons (ps_par (by rfl) sc_law.nd (i := 6) (j := 7) rfl rfl (by decide) rfl rfl (pa_cons (pe_make T.K_Counter (ok_Counteru__initu_ T) (hr.mono (by decide)) (by rfl) T.m_Counter T.b_Counteru__initu_ .nil pass0 (pa_cons (pv 3) (pa_cons (pv 4) pa_nil))) (pa_cons (pe_make T.K_Counter (ok_Counteru__initu_ T) (hr.mono (by decide)) (by rfl) T.m_Counter T.b_Counteru__initu_ .nil pass0 (pa_cons (pv 3) (pa_cons (pv 5) pa_nil))) pa_nil)) (by rfl))
      (pss_cons (ps_if (pt_cmpR op_ne (pe_op (Own.opS (op := .Sub) (ok_Counteru__subu_ T) (hr.mono (by decide)) T.O_Counteru__subu__S T.b_Counteru__subu_ pass0) (pv 6) (pv 7)) (pe_op op_mod (pe_callTy call_int1 (by rfl) T.n_int (by decide +kernel) (pa_cons (pe_op op_sub (pv 4) (pv 5)) pa_nil)) (pv 3)) (nomark _)) (pss_one (ps_ret pe_bl)) pss_nil)
      (pss_cons (ps_if (pt_cmpR op_ne (pe_op (Own.opS (op := .Sub) (ok_Counteru__subu_ T) (hr.mono (by decide)) T.O_Counteru__subu__S T.b_Counteru__subu_ pass0) (pv 7) (pv 6)) (pe_op op_mod (pe_callTy call_int1 (by rfl) T.n_int (by decide +kernel) (pa_cons (pe_op op_sub (pv 5) (pv 4)) pa_nil)) (pv 3)) (nomark _)) (pss_one (ps_ret pe_bl)) pss_nil)
      (pss_cons (ps_if (pt_cmpR op_ne (pe_cmpR (Own.cmp (cop := .Eq) (ok_Counteru__equ_ T) (hr.mono (by decide)) T.O_Counteru__equ__1 T.b_Counteru__equ_ pass0) (pv 6) (pv 7) (nomark _)) (pe_cmpR op_eq (pe_op op_mod (pe_callTy call_int1 (by rfl) T.n_int (by decide +kernel) (pa_cons (pe_op op_sub (pv 4) (pv 5)) pa_nil)) (pv 3)) pe_int (nomark _)) (nomark _)) (pss_one (ps_ret pe_bl)) pss_nil)
      (pss_cons (ps_if (pt_cmpR (Own.cmp (cop := .Eq) (ok_Counteru__equ_ T) (hr.mono (by decide)) T.O_Counteru__equ__1 T.b_Counteru__equ_ pass0) (pv 6) (pe_make T.K_Counter (ok_Counteru__initu_ T) (hr.mono (by decide)) (by rfl) T.m_Counter T.b_Counteru__initu_ .nil pass0 (pa_cons (pe_op op_add (pv 3) pe_int) (pa_cons (pe_prop (pv 6) T.k_Counter T.R_Counter_value (ok_Counter_value T) (hr.mono (by decide)) T.b_Counter_value .nil pass0 rfl) pa_nil))) (nomark _)) (pss_one (ps_ret pe_bl)) pss_nil)
      (pss_one (ps_if (pt_cmpR (Own.cmp (cop := .Eq) (ok_Counteru__equ_ T) (hr.mono (by decide)) T.O_Counteru__equ__1 T.b_Counteru__equ_ pass0) (pv 6) (pe_prop (pv 6) T.k_Counter T.R_Counter_value (ok_Counter_value T) (hr.mono (by decide)) T.b_Counter_value .nil pass0 rfl) (nomark _)) (pss_one (ps_ret pe_bl)) pss_nil)))))))))))))))
      (pss_one (ps_ret pe_bl))), ?_⟩
    try dsimp only [L2.cxOf, L2.Cx.nox, L2.Cx.wish]
    with_reducible refine Rd.seq (Rd.fr (Rd.rng1 (Rd.cons (Rd.cB (Rd.cons (Rd.c (Rd.cons (Rd.cB (Rd.cons (Rd.cB (Rd.cons ?_)))))))))))
    with_reducible refine Rd.var (by walk_at "vr") (Rd.nil (⟨_, _, rfl, (by walk_at "hpq"), (Rd.cons (Rd.c (Rd.nil (⟨_, _, rfl, (Rd.nil (⟨_, _, rfl, (Rd.nil (⟨_, rfl, (by walk_at "sc"), (by walk_at "sc"), ?_⟩))⟩))⟩))))⟩))
    refine for_range (lo := 0) (fun (_ : Nat) (σ : L2.St) (H' : Hp) => ∃ v1 v2 v3 v4 v5 v6 v7 : Option V, σ = [some (.ref a), v1, v2, v3, v4, v5, v6, v7] ∧ Same H H') ⟨none, none, none, none, none, none, none, rfl, Same.refl _⟩ (fun i σ H0 hi ⟨v1, v2, v3, v4, v5, v6, v7, es, S0⟩ => ?_) (fun σ H0 ⟨v1, v2, v3, v4, v5, v6, v7, es, S0⟩ => ?_)
    · subst es
      have hS0 := Same.seq S0 hS
      with_reducible refine Rd.name (Rd.seq (Rd.asg (Rd.call (Rd.cons (Rd.var (by walk_at "vr") (Rd.cons (Rd.var (by walk_at "vr") (Rd.nil ?_))))))))
      refine ⟨_, _, _, rfl, (by walk_at "hpl"), (by walk_at "sc"), (by walk_at "sc"), fun src1 o1 src1n s1 => ?_⟩
      with_reducible refine Rd.name (Rd.seq (Rd.asg (Rd.op (Rd.c (Rd.call (Rd.cons (Rd.var (by walk_at "vr") (Rd.cons (Rd.op (Rd.lst (Rd.cons ?_)))))))))))
      with_reducible refine Rd.c (Rd.cons (Rd.c (Rd.cons (Rd.op (Rd.op (Rd.c (Rd.c (Rd.iC (by walk_at "scp") (Rd.c (Rd.i0 (Rd.nil ?_)))))))))))
      with_reducible refine Rd.laid (by walk_at "ll") ?_
      intro p0 np0
      with_reducible refine Rd.call (Rd.cons (Rd.var (by walk_at "vr") (Rd.cons (Rd.c (Rd.nil ?_)))))
      refine ⟨_, _, _, rfl, (by walk_at "hp"), (by walk_at "sc"), (by walk_at "sc"), (by walk_at "sc"), fun d2 o2 d2a d2b s2 => ?_⟩
      refine Rd.pick (ns := [12, 1000, 9999999999999999999999999999999999999999]) (lo := 12) (hi := 9999999999999999999999999999999999999999) (by decide) (by walk_at "hpl") (by walk_at "vr") (by walk_at "sc") (by show (_ : Int) < 3; walk_at "sc") (fun n_0 m_0 na_0 nb_0 => ?_)
      with_reducible refine Rd.nil ?_
      refine ⟨_, _, _, rfl, (by walk_at "hp"), (by walk_at "sc"), (by walk_at "sc"), (by walk_at "sc"), fun d3 o3 d3a d3b s3 => ?_⟩
      with_reducible refine Rd.i0 (Rd.name (Rd.seq (Rd.par (Rd.cons (Rd.call (Rd.cons (Rd.var (by walk_at "vr") (Rd.nil ?_))))))))
      refine ⟨_, _, rfl, (by walk_at "hp"), (by walk_at "sc"), fun z4 o4 H4 F4 r4 so4 b4 => ?_⟩
      with_reducible refine Rd.cons (Rd.call (Rd.cons (Rd.var (by walk_at "vr") (Rd.nil ?_))))
      refine ⟨_, _, rfl, (by walk_at "hp"), (by walk_at "sc"), fun z5 o5 H5 F5 r5 so5 b5 => ?_⟩
      with_reducible refine Rd.nil (⟨_, _, rfl, (Rd.seq (Rd.ifS (Rd.not (Rd.tb (Rd.call (Rd.cons (Rd.make (Rd.cons (Rd.var (by walk_at "vr") (Rd.nil ?_))))))))))⟩)
      intro x6 dx6 nx6 ndx6 ne6
      refine ⟨_, _, _, _, rfl, L2.upd_same, (by walk_at "sc"), (by walk_at "sc"), ?_⟩
      refine ⟨rfl, ?_⟩
      rw [L2.upd_upd]
      with_reducible refine Rd.cons (Rd.var (by walk_at "vr") (Rd.cons (Rd.c (Rd.nil ?_))))
      refine ⟨_, _, _, _, _, _, rfl, (by walk_at "hp"), rfl, (by walk_at "sc"), (by walk_at "em"), fun H7 S7 => ?_⟩
      with_reducible refine Rd.bl (Rd.iteF (by walk_at "bF") (Rd.next (Rd.seq (Rd.ifS (Rd.not (Rd.tb (Rd.call (Rd.cons (Rd.make (Rd.cons (Rd.var (by walk_at "vr") ?_)))))))))))
      with_reducible refine Rd.cons (Rd.var (by walk_at "vr") (Rd.nil ?_))
      intro x8 dx8 nx8 ndx8 ne8
      refine ⟨_, _, _, _, rfl, L2.upd_same, (by walk_at "sc"), (by walk_at "sc"), ?_⟩
      refine ⟨rfl, ?_⟩
      rw [L2.upd_upd]
      with_reducible refine Rd.cons (Rd.var (by walk_at "vr") (Rd.cons (Rd.var (by walk_at "vr") (Rd.nil ?_))))
      refine ⟨_, _, _, _, _, _, rfl, (by walk_at "hp"), rfl, (by walk_at "sc"), (by walk_at "em"), fun H9 S9 => ?_⟩
      with_reducible refine Rd.bl (Rd.iteF (by walk_at "bF") (Rd.next (Rd.seq (Rd.ifS (Rd.not (Rd.tb (Rd.call (Rd.cons (Rd.var (by walk_at "vr") (Rd.cons (Rd.var (by walk_at "vr") ?_)))))))))))
      with_reducible refine Rd.cons (Rd.call (Rd.cons (Rd.var (by walk_at "vr") (Rd.nil ?_))))
      refine ⟨_, _, rfl, (by walk_at "hp"), (by walk_at "sc"), fun z10 o10 H10 F10 r10 so10 b10 => ?_⟩
      with_reducible refine Rd.nil ?_
      refine ⟨_, _, _, rfl, (by walk_at "sc"), (by walk_at "sc"), (by walk_at "sc"), fun H11 S11 => ?_⟩
      with_reducible refine Rd.bl (Rd.iteF (by walk_at "bF") (Rd.next (Rd.seq (Rd.ifS (Rd.not (Rd.tb (Rd.call (Rd.cons (Rd.var (by walk_at "vr") (Rd.cons (Rd.var (by walk_at "vr") ?_)))))))))))
      with_reducible refine Rd.cons (Rd.op (Rd.c (Rd.cB (Rd.cons (Rd.call (Rd.cons (Rd.var (by walk_at "vr") (Rd.nil ?_))))))))
      refine ⟨_, _, rfl, (by walk_at "hp"), (by walk_at "sc"), fun z12 o12 H12 F12 r12 so12 b12 => ?_⟩
      with_reducible refine Rd.nil (⟨_, rfl, (Rd.i0 (Rd.cons (Rd.cB (Rd.cons (Rd.call (Rd.cons (Rd.var (by walk_at "vr") (Rd.nil ?_))))))))⟩)
      refine ⟨_, _, rfl, (by walk_at "hp"), (by walk_at "sc"), fun z13 o13 H13 F13 r13 so13 b13 => ?_⟩
      with_reducible refine Rd.nil (⟨_, rfl, (Rd.nil ?_)⟩)
      refine ⟨_, _, _, _, rfl, (by walk_at "sc"), (by walk_at "sc"), (by walk_at "sc"), (by walk_at "sc"), fun H14 S14 => ?_⟩
      with_reducible refine Rd.bl (Rd.iteF (by walk_at "bF") (Rd.next (Rd.seq (Rd.par (Rd.cons (Rd.make (Rd.cons (Rd.var (by walk_at "vr") (Rd.cons (Rd.var (by walk_at "vr") (Rd.nil ?_)))))))))))
      intro x15 dx15 nx15 ndx15 ne15
      refine ⟨_, _, _, _, rfl, L2.upd_same, (by walk_at "sc"), (by walk_at "sc"), ?_⟩
      refine ⟨rfl, ?_⟩
      rw [L2.upd_upd]
      with_reducible refine Rd.cons (Rd.make (Rd.cons (Rd.var (by walk_at "vr") (Rd.cons (Rd.var (by walk_at "vr") (Rd.nil ?_))))))
      intro x16 dx16 nx16 ndx16 ne16
      refine ⟨_, _, _, _, rfl, L2.upd_same, (by walk_at "sc"), (by walk_at "sc"), ?_⟩
      refine ⟨rfl, ?_⟩
      rw [L2.upd_upd]
      with_reducible refine Rd.nil (⟨_, _, rfl, (Rd.seq (Rd.ifS (Rd.test (Rd.op (Rd.op (Rd.var (by walk_at "vr") (Rd.var (by walk_at "vr") (Own.opS2 (by walk_at "hp") (by walk_at "hp") ?_))))))))⟩)
      refine ⟨_, _, _, _, _, rfl, (by walk_at "hp"), (by walk_at "sc"), (by walk_at "sc"), .inl ⟨_, _, _, rfl, (by walk_at "hp"), ?_⟩⟩
      with_reducible refine Rd.op (Rd.cB (Rd.cons (Rd.op (Rd.var (by walk_at "vr") (Rd.var (by walk_at "vr") (Rd.i0 (Rd.nil ((.inl ⟨_, rfl, (Rd.var (by walk_at "vr") (Rd.iC (by walk_at "sc") (Rd.neS (by walk_at "vr") ?_)))⟩)))))))))
      with_reducible refine Rd.bl (Rd.iteF (by walk_at "bF") (Rd.next (Rd.seq (Rd.ifS (Rd.test (Rd.op (Rd.op (Rd.var (by walk_at "vr") (Rd.var (by walk_at "vr") (Own.opS2 (by walk_at "hp") (by walk_at "hp") ?_))))))))))
      refine ⟨_, _, _, _, _, rfl, (by walk_at "hp"), (by walk_at "sc"), (by walk_at "sc"), .inl ⟨_, _, _, rfl, (by walk_at "hp"), ?_⟩⟩
      with_reducible refine Rd.op (Rd.cB (Rd.cons (Rd.op (Rd.var (by walk_at "vr") (Rd.var (by walk_at "vr") (Rd.i0 (Rd.nil ((.inl ⟨_, rfl, (Rd.var (by walk_at "vr") (Rd.iC (by walk_at "sc") (Rd.neS (by walk_at "vr") ?_)))⟩)))))))))
      with_reducible refine Rd.bl (Rd.iteF (by walk_at "bF") (Rd.next (Rd.seq (Rd.ifS (Rd.test (Rd.op (Rd.op (Rd.var (by walk_at "vr") (Rd.var (by walk_at "vr") (Own.cmp2 (by walk_at "hp") (by walk_at "tyx") (by walk_at "nf") ?_))))))))))
      refine ⟨_, _, _, _, _, rfl, (by walk_at "hp"), .inl ⟨_, _, _, _, rfl, (by walk_at "hp"), ?_⟩⟩
      with_reducible refine Rd.op (Rd.op (Rd.cB (Rd.cons (Rd.op (Rd.var (by walk_at "vr") (Rd.var (by walk_at "vr") (Rd.i0 (Rd.nil ((.inl ⟨_, rfl, (Rd.var (by walk_at "vr") (Rd.iC (by walk_at "sc") ?_))⟩))))))))))
      with_reducible refine Rd.c (Rd.eqS (by walk_at "vr") (Rd.neS (by walk_at "vr") (Rd.bl (Rd.iteF (by walk_at "bF") (Rd.next (Rd.seq (Rd.ifS (Rd.test (Rd.op (Rd.var (by walk_at "vr") (Rd.make ?_)))))))))))
      with_reducible refine Rd.cons (Rd.op (Rd.var (by walk_at "vr") (Rd.c (Rd.i0 (Rd.cons (Rd.prop (Rd.var (by walk_at "vr") (⟨_, _, _, rfl, (by walk_at "hp"), ?_⟩))))))))
      refine ⟨_, _, _, _, rfl, (by walk_at "hp"), ?_⟩
      with_reducible refine Rd.nil ?_
      intro x21 dx21 nx21 ndx21 ne21
      refine ⟨_, _, _, _, rfl, L2.upd_same, (by walk_at "sc"), (by walk_at "sc"), ?_⟩
      refine ⟨rfl, ?_⟩
      rw [L2.upd_upd]
      with_reducible refine Own.cmp2 (by walk_at "hp") (by walk_at "tyx") (by walk_at "nf") ?_
      refine ⟨_, _, _, _, _, rfl, (by walk_at "hp"), .inl ⟨_, _, _, _, rfl, (by walk_at "hp"), ?_⟩⟩
      with_reducible refine Rd.bl (Rd.iteF (by walk_at "bF") (Rd.next (Rd.ifS (Rd.test (Rd.op (Rd.var (by walk_at "vr") (Rd.prop (Rd.var (by walk_at "vr") (⟨_, _, _, rfl, (by walk_at "hp"), ?_⟩)))))))))
      refine ⟨_, _, _, _, rfl, (by walk_at "hp"), ?_⟩
      with_reducible refine Own.cmp2 (by walk_at "hp") (by walk_at "tyx") (by walk_at "nf") ?_
      refine ⟨_, _, _, _, _, rfl, (by walk_at "hp"), .inr ⟨_, rfl, ?_⟩⟩
      with_reducible refine Rd.bl (Rd.iteF (by walk_at "bF") (Rd.next ?_))
      exact ⟨_, _, _, _, _, _, _, rfl, (by walk_at "frm")⟩
    · subst es
      with_reducible refine Rd.ret (Rd.c ?_)
      exact k _
end
theorem all_mk {l : PySem.W.OpenLaw} {w : World} {K : PySem.W.Frag} {h : Heap} {mg : Str → Option Value} {fa f_is_whole f_is_whole_from f_check_whole f_Counteru__initu_ f_Counter_value f_Counter_change f_Counteru__addu_ f_Counteru__raddu_ f_Counteru__subu_ f_Counteru__iaddu_ f_Counteru__isubu_ f_check_divisor f_Counteru__floordivu_ f_Counteru__modu_ f_Counteru__andu_ f_Counteru__equ_ f_l_source f_l_draw f_l_number f_l_is f_l_stepped f_l_made_of f_law c_Counter p_Counter_value : Addr} (X : K.In h) (G : h.Ns mainGlobals mg) (hfa : mg "law" = some (.ref fa))
    {od_is_whole an_is_whole : Option Addr} {sl_is_whole : Array (Option Value)} {oc_is_whole kV_is_whole dc_is_whole pm_is_whole cd_is_whole ct_is_whole : Value}
    {od_is_whole_from an_is_whole_from : Option Addr} {sl_is_whole_from : Array (Option Value)} {oc_is_whole_from kV_is_whole_from dc_is_whole_from pm_is_whole_from cd_is_whole_from ct_is_whole_from : Value}
    {od_check_whole an_check_whole : Option Addr} {sl_check_whole : Array (Option Value)} {oc_check_whole kV_check_whole dc_check_whole pm_check_whole cd_check_whole ct_check_whole : Value}
    {od_Counteru__initu_ an_Counteru__initu_ : Option Addr} {sl_Counteru__initu_ : Array (Option Value)} {oc_Counteru__initu_ kV_Counteru__initu_ dc_Counteru__initu_ pm_Counteru__initu_ cd_Counteru__initu_ ct_Counteru__initu_ : Value}
    {od_Counter_value an_Counter_value : Option Addr} {sl_Counter_value : Array (Option Value)} {oc_Counter_value kV_Counter_value dc_Counter_value pm_Counter_value cd_Counter_value ct_Counter_value : Value}
    {od_Counter_change an_Counter_change : Option Addr} {sl_Counter_change : Array (Option Value)} {oc_Counter_change kV_Counter_change dc_Counter_change pm_Counter_change cd_Counter_change ct_Counter_change : Value}
    {od_Counteru__addu_ an_Counteru__addu_ : Option Addr} {sl_Counteru__addu_ : Array (Option Value)} {oc_Counteru__addu_ kV_Counteru__addu_ dc_Counteru__addu_ pm_Counteru__addu_ cd_Counteru__addu_ ct_Counteru__addu_ : Value}
    {od_Counteru__raddu_ an_Counteru__raddu_ : Option Addr} {sl_Counteru__raddu_ : Array (Option Value)} {oc_Counteru__raddu_ kV_Counteru__raddu_ dc_Counteru__raddu_ pm_Counteru__raddu_ cd_Counteru__raddu_ ct_Counteru__raddu_ : Value}
    {od_Counteru__subu_ an_Counteru__subu_ : Option Addr} {sl_Counteru__subu_ : Array (Option Value)} {oc_Counteru__subu_ kV_Counteru__subu_ dc_Counteru__subu_ pm_Counteru__subu_ cd_Counteru__subu_ ct_Counteru__subu_ : Value}
    {od_Counteru__iaddu_ an_Counteru__iaddu_ : Option Addr} {sl_Counteru__iaddu_ : Array (Option Value)} {oc_Counteru__iaddu_ kV_Counteru__iaddu_ dc_Counteru__iaddu_ pm_Counteru__iaddu_ cd_Counteru__iaddu_ ct_Counteru__iaddu_ : Value}
    {od_Counteru__isubu_ an_Counteru__isubu_ : Option Addr} {sl_Counteru__isubu_ : Array (Option Value)} {oc_Counteru__isubu_ kV_Counteru__isubu_ dc_Counteru__isubu_ pm_Counteru__isubu_ cd_Counteru__isubu_ ct_Counteru__isubu_ : Value}
    {od_check_divisor an_check_divisor : Option Addr} {sl_check_divisor : Array (Option Value)} {oc_check_divisor kV_check_divisor dc_check_divisor pm_check_divisor cd_check_divisor ct_check_divisor : Value}
    {od_Counteru__floordivu_ an_Counteru__floordivu_ : Option Addr} {sl_Counteru__floordivu_ : Array (Option Value)} {oc_Counteru__floordivu_ kV_Counteru__floordivu_ dc_Counteru__floordivu_ pm_Counteru__floordivu_ cd_Counteru__floordivu_ ct_Counteru__floordivu_ : Value}
    {od_Counteru__modu_ an_Counteru__modu_ : Option Addr} {sl_Counteru__modu_ : Array (Option Value)} {oc_Counteru__modu_ kV_Counteru__modu_ dc_Counteru__modu_ pm_Counteru__modu_ cd_Counteru__modu_ ct_Counteru__modu_ : Value}
    {od_Counteru__andu_ an_Counteru__andu_ : Option Addr} {sl_Counteru__andu_ : Array (Option Value)} {oc_Counteru__andu_ kV_Counteru__andu_ dc_Counteru__andu_ pm_Counteru__andu_ cd_Counteru__andu_ ct_Counteru__andu_ : Value}
    {od_Counteru__equ_ an_Counteru__equ_ : Option Addr} {sl_Counteru__equ_ : Array (Option Value)} {oc_Counteru__equ_ kV_Counteru__equ_ dc_Counteru__equ_ pm_Counteru__equ_ cd_Counteru__equ_ ct_Counteru__equ_ : Value}
    {od_l_source an_l_source : Option Addr} {sl_l_source : Array (Option Value)} {oc_l_source kV_l_source dc_l_source pm_l_source cd_l_source ct_l_source : Value}
    {od_l_draw an_l_draw : Option Addr} {sl_l_draw : Array (Option Value)} {oc_l_draw kV_l_draw dc_l_draw pm_l_draw cd_l_draw ct_l_draw : Value}
    {od_l_number an_l_number : Option Addr} {sl_l_number : Array (Option Value)} {oc_l_number kV_l_number dc_l_number pm_l_number cd_l_number ct_l_number : Value}
    {od_l_is an_l_is : Option Addr} {sl_l_is : Array (Option Value)} {oc_l_is kV_l_is dc_l_is pm_l_is cd_l_is ct_l_is : Value}
    {od_l_stepped an_l_stepped : Option Addr} {sl_l_stepped : Array (Option Value)} {oc_l_stepped kV_l_stepped dc_l_stepped pm_l_stepped cd_l_stepped ct_l_stepped : Value}
    {od_l_made_of an_l_made_of : Option Addr} {sl_l_made_of : Array (Option Value)} {oc_l_made_of kV_l_made_of dc_l_made_of pm_l_made_of cd_l_made_of ct_l_made_of : Value}
    {od_law an_law : Option Addr} {sl_law : Array (Option Value)} {oc_law kV_law dc_law pm_law cd_law ct_law : Value}
    {t_GREATEST_MODULUS : Tok}
    {dT_Counteru__initu_ : Addr}
    {oT_Counteru__initu_ : Value}
    {odT_Counteru__initu_ : Option Addr}
    {nT_Counteru__initu_ : Nat}
    {slT_Counteru__initu_ : Array (Option Value)}
    {tk_Counteru__initu__0 : Tok}
    {rs_Counter_value : List Value}
    {rc_Counteru__addu_ fo_Counteru__addu_ ro_Counteru__addu_ : Option Value}
    {l0_Counteru__raddu_ : Addr}
    {rc_Counteru__subu_ fo_Counteru__subu_ ro_Counteru__subu_ : Option Value}
    {rc_Counteru__floordivu_ fo_Counteru__floordivu_ ro_Counteru__floordivu_ : Option Value}
    {rc_Counteru__modu_ fo_Counteru__modu_ ro_Counteru__modu_ : Option Value}
    {rc_Counteru__andu_ fo_Counteru__andu_ ro_Counteru__andu_ : Option Value}
    (h_n_abs : PySem.W.nsIn K mainGlobals "abs" = some none)
    (h_n_bool : PySem.W.nsIn K mainGlobals "bool" = some none)
    (h_n_int : PySem.W.nsIn K mainGlobals "int" = some none)
    (h_n_isinstance : PySem.W.nsIn K mainGlobals "isinstance" = some none)
    (h_n_len : PySem.W.nsIn K mainGlobals "len" = some none)
    (h_n_max : PySem.W.nsIn K mainGlobals "max" = some none)
    (h_n_min : PySem.W.nsIn K mainGlobals "min" = some none)
    (h_n_range : PySem.W.nsIn K mainGlobals "range" = some none)
    (h_m_GREATEST_MODULUS : PySem.W.nsIn K mainGlobals "GREATEST_MODULUS" = some (some (.int (10000000000000000000000000000000000000000) t_GREATEST_MODULUS)))
    (h_m_Counter : PySem.W.nsIn K mainGlobals "Counter" = some (some (.ref c_Counter)))
    (h_n_Counter_modulus : PySem.W.findIn K (.ref c_Counter) "modulus" = some none)
    (h_n_Counter_value : PySem.W.findIn K (.ref c_Counter) "_value" = some none)
    (h_m_is_whole : PySem.W.nsIn K mainGlobals "is_whole" = some (some (.ref f_is_whole)))
    (h_m_is_whole_from : PySem.W.nsIn K mainGlobals "is_whole_from" = some (some (.ref f_is_whole_from)))
    (h_m_check_whole : PySem.W.nsIn K mainGlobals "check_whole" = some (some (.ref f_check_whole)))
    (h_m_check_divisor : PySem.W.nsIn K mainGlobals "check_divisor" = some (some (.ref f_check_divisor)))
    (h_m_l_source : PySem.W.nsIn K mainGlobals "_law_source" = some (some (.ref f_l_source)))
    (h_m_l_draw : PySem.W.nsIn K mainGlobals "_law_draw" = some (some (.ref f_l_draw)))
    (h_m_l_number : PySem.W.nsIn K mainGlobals "_law_number" = some (some (.ref f_l_number)))
    (h_m_l_is : PySem.W.nsIn K mainGlobals "_law_is" = some (some (.ref f_l_is)))
    (h_m_l_stepped : PySem.W.nsIn K mainGlobals "_law_stepped" = some (some (.ref f_l_stepped)))
    (h_m_l_made_of : PySem.W.nsIn K mainGlobals "_law_made_of" = some (some (.ref f_l_made_of)))
    (h_m_law : PySem.W.nsIn K mainGlobals "law" = some (some (.ref f_law)))
    (h_in_Counter : PySem.W.findIn K (.ref c_Counter) "__init__" = some (some (.ref f_Counteru__initu_)))
    (h_a_Counter_change : PySem.W.findIn K (.ref c_Counter) "change" = some (some (.ref f_Counter_change)))
    (h_a1_Counter_value : PySem.W.findIn K (.ref c_Counter) "value" = some (some (.ref p_Counter_value)))
    (h_bn_Counteru__addu_ : PySem.W.findIn K (.ref c_Counter) (PySem.dunder (Operator.info .Add).2) = some (some (.ref f_Counteru__addu_)))
    (h_br_Counteru__raddu_ : PySem.W.findIn K (.ref c_Counter) (dunderR (Operator.info .Add).2) = some (some (.ref f_Counteru__raddu_)))
    (h_bn_Counteru__subu_ : PySem.W.findIn K (.ref c_Counter) (PySem.dunder (Operator.info .Sub).2) = some (some (.ref f_Counteru__subu_)))
    (h_bx_Counteru__iaddu_ : PySem.W.findIn K (.ref c_Counter) (dunderI (Operator.info .Add).2) = some (some (.ref f_Counteru__iaddu_)))
    (h_bx_Counteru__isubu_ : PySem.W.findIn K (.ref c_Counter) (dunderI (Operator.info .Sub).2) = some (some (.ref f_Counteru__isubu_)))
    (h_bn_Counteru__floordivu_ : PySem.W.findIn K (.ref c_Counter) (PySem.dunder (Operator.info .FloorDiv).2) = some (some (.ref f_Counteru__floordivu_)))
    (h_bn_Counteru__modu_ : PySem.W.findIn K (.ref c_Counter) (PySem.dunder (Operator.info .Mod).2) = some (some (.ref f_Counteru__modu_)))
    (h_bn_Counteru__andu_ : PySem.W.findIn K (.ref c_Counter) (PySem.dunder (Operator.info .BitAnd).2) = some (some (.ref f_Counteru__andu_)))
    (h_a_Counteru__equ_ : PySem.W.findIn K (.ref c_Counter) "__eq__" = some (some (.ref f_Counteru__equ_)))
    (h_a2_Counter_value : PySem.W.recIn K p_Counter_value "property" = some (.ref f_Counter_value :: rs_Counter_value))
    (h_l_is_whole : K.lookup f_is_whole = some ⟨oc_is_whole, od_is_whole, .func (PySem.W.fnOf "is_whole" "is_whole" (defArgs s_is_whole) (defBody s_is_whole) (defScope s_is_whole) .none kV_is_whole dc_is_whole pm_is_whole an_is_whole cd_is_whole ct_is_whole), sl_is_whole⟩)
    (h_l_is_whole_from : K.lookup f_is_whole_from = some ⟨oc_is_whole_from, od_is_whole_from, .func (PySem.W.fnOf "is_whole_from" "is_whole_from" (defArgs s_is_whole_from) (defBody s_is_whole_from) (defScope s_is_whole_from) .none kV_is_whole_from dc_is_whole_from pm_is_whole_from an_is_whole_from cd_is_whole_from ct_is_whole_from), sl_is_whole_from⟩)
    (h_l_check_whole : K.lookup f_check_whole = some ⟨oc_check_whole, od_check_whole, .func (PySem.W.fnOf "check_whole" "check_whole" (defArgs s_check_whole) (defBody s_check_whole) (defScope s_check_whole) .none kV_check_whole dc_check_whole pm_check_whole an_check_whole cd_check_whole ct_check_whole), sl_check_whole⟩)
    (h_l_Counteru__initu_ : K.lookup f_Counteru__initu_ = some ⟨oc_Counteru__initu_, od_Counteru__initu_, .func (PySem.W.fnOf "__init__" "Counter.__init__" (defArgs s_Counteru__initu_) (defBody s_Counteru__initu_) (defScope s_Counteru__initu_) (.ref dT_Counteru__initu_) kV_Counteru__initu_ dc_Counteru__initu_ pm_Counteru__initu_ an_Counteru__initu_ cd_Counteru__initu_ ct_Counteru__initu_), sl_Counteru__initu_⟩)
    (h_l_Counter_value : K.lookup f_Counter_value = some ⟨oc_Counter_value, od_Counter_value, .func (PySem.W.fnOf "value" "Counter.value" (defArgs s_Counter_value) (defBody s_Counter_value) (defScope s_Counter_value) .none kV_Counter_value dc_Counter_value pm_Counter_value an_Counter_value cd_Counter_value ct_Counter_value), sl_Counter_value⟩)
    (h_l_Counter_change : K.lookup f_Counter_change = some ⟨oc_Counter_change, od_Counter_change, .func (PySem.W.fnOf "change" "Counter.change" (defArgs s_Counter_change) (defBody s_Counter_change) (defScope s_Counter_change) .none kV_Counter_change dc_Counter_change pm_Counter_change an_Counter_change cd_Counter_change ct_Counter_change), sl_Counter_change⟩)
    (h_l_Counteru__addu_ : K.lookup f_Counteru__addu_ = some ⟨oc_Counteru__addu_, od_Counteru__addu_, .func (PySem.W.fnOf "__add__" "Counter.__add__" (defArgs s_Counteru__addu_) (defBody s_Counteru__addu_) (defScope s_Counteru__addu_) .none kV_Counteru__addu_ dc_Counteru__addu_ pm_Counteru__addu_ an_Counteru__addu_ cd_Counteru__addu_ ct_Counteru__addu_), sl_Counteru__addu_⟩)
    (h_l_Counteru__raddu_ : K.lookup f_Counteru__raddu_ = some ⟨oc_Counteru__raddu_, od_Counteru__raddu_, .func (PySem.W.fnOf "__radd__" "Counter.__radd__" (defArgs s_Counteru__raddu_) (defBody s_Counteru__raddu_) (defScope s_Counteru__raddu_) .none kV_Counteru__raddu_ dc_Counteru__raddu_ pm_Counteru__raddu_ an_Counteru__raddu_ cd_Counteru__raddu_ ct_Counteru__raddu_), sl_Counteru__raddu_⟩)
    (h_l_Counteru__subu_ : K.lookup f_Counteru__subu_ = some ⟨oc_Counteru__subu_, od_Counteru__subu_, .func (PySem.W.fnOf "__sub__" "Counter.__sub__" (defArgs s_Counteru__subu_) (defBody s_Counteru__subu_) (defScope s_Counteru__subu_) .none kV_Counteru__subu_ dc_Counteru__subu_ pm_Counteru__subu_ an_Counteru__subu_ cd_Counteru__subu_ ct_Counteru__subu_), sl_Counteru__subu_⟩)
    (h_l_Counteru__iaddu_ : K.lookup f_Counteru__iaddu_ = some ⟨oc_Counteru__iaddu_, od_Counteru__iaddu_, .func (PySem.W.fnOf "__iadd__" "Counter.__iadd__" (defArgs s_Counteru__iaddu_) (defBody s_Counteru__iaddu_) (defScope s_Counteru__iaddu_) .none kV_Counteru__iaddu_ dc_Counteru__iaddu_ pm_Counteru__iaddu_ an_Counteru__iaddu_ cd_Counteru__iaddu_ ct_Counteru__iaddu_), sl_Counteru__iaddu_⟩)
    (h_l_Counteru__isubu_ : K.lookup f_Counteru__isubu_ = some ⟨oc_Counteru__isubu_, od_Counteru__isubu_, .func (PySem.W.fnOf "__isub__" "Counter.__isub__" (defArgs s_Counteru__isubu_) (defBody s_Counteru__isubu_) (defScope s_Counteru__isubu_) .none kV_Counteru__isubu_ dc_Counteru__isubu_ pm_Counteru__isubu_ an_Counteru__isubu_ cd_Counteru__isubu_ ct_Counteru__isubu_), sl_Counteru__isubu_⟩)
    (h_l_check_divisor : K.lookup f_check_divisor = some ⟨oc_check_divisor, od_check_divisor, .func (PySem.W.fnOf "check_divisor" "check_divisor" (defArgs s_check_divisor) (defBody s_check_divisor) (defScope s_check_divisor) .none kV_check_divisor dc_check_divisor pm_check_divisor an_check_divisor cd_check_divisor ct_check_divisor), sl_check_divisor⟩)
    (h_l_Counteru__floordivu_ : K.lookup f_Counteru__floordivu_ = some ⟨oc_Counteru__floordivu_, od_Counteru__floordivu_, .func (PySem.W.fnOf "__floordiv__" "Counter.__floordiv__" (defArgs s_Counteru__floordivu_) (defBody s_Counteru__floordivu_) (defScope s_Counteru__floordivu_) .none kV_Counteru__floordivu_ dc_Counteru__floordivu_ pm_Counteru__floordivu_ an_Counteru__floordivu_ cd_Counteru__floordivu_ ct_Counteru__floordivu_), sl_Counteru__floordivu_⟩)
    (h_l_Counteru__modu_ : K.lookup f_Counteru__modu_ = some ⟨oc_Counteru__modu_, od_Counteru__modu_, .func (PySem.W.fnOf "__mod__" "Counter.__mod__" (defArgs s_Counteru__modu_) (defBody s_Counteru__modu_) (defScope s_Counteru__modu_) .none kV_Counteru__modu_ dc_Counteru__modu_ pm_Counteru__modu_ an_Counteru__modu_ cd_Counteru__modu_ ct_Counteru__modu_), sl_Counteru__modu_⟩)
    (h_l_Counteru__andu_ : K.lookup f_Counteru__andu_ = some ⟨oc_Counteru__andu_, od_Counteru__andu_, .func (PySem.W.fnOf "__and__" "Counter.__and__" (defArgs s_Counteru__andu_) (defBody s_Counteru__andu_) (defScope s_Counteru__andu_) .none kV_Counteru__andu_ dc_Counteru__andu_ pm_Counteru__andu_ an_Counteru__andu_ cd_Counteru__andu_ ct_Counteru__andu_), sl_Counteru__andu_⟩)
    (h_l_Counteru__equ_ : K.lookup f_Counteru__equ_ = some ⟨oc_Counteru__equ_, od_Counteru__equ_, .func (PySem.W.fnOf "__eq__" "Counter.__eq__" (defArgs s_Counteru__equ_) (defBody s_Counteru__equ_) (defScope s_Counteru__equ_) .none kV_Counteru__equ_ dc_Counteru__equ_ pm_Counteru__equ_ an_Counteru__equ_ cd_Counteru__equ_ ct_Counteru__equ_), sl_Counteru__equ_⟩)
    (h_l_l_source : K.lookup f_l_source = some ⟨oc_l_source, od_l_source, .func (PySem.W.fnOf "_law_source" "_law_source" (defArgs s_l_source) (defBody s_l_source) (defScope s_l_source) .none kV_l_source dc_l_source pm_l_source an_l_source cd_l_source ct_l_source), sl_l_source⟩)
    (h_l_l_draw : K.lookup f_l_draw = some ⟨oc_l_draw, od_l_draw, .func (PySem.W.fnOf "_law_draw" "_law_draw" (defArgs s_l_draw) (defBody s_l_draw) (defScope s_l_draw) .none kV_l_draw dc_l_draw pm_l_draw an_l_draw cd_l_draw ct_l_draw), sl_l_draw⟩)
    (h_l_l_number : K.lookup f_l_number = some ⟨oc_l_number, od_l_number, .func (PySem.W.fnOf "_law_number" "_law_number" (defArgs s_l_number) (defBody s_l_number) (defScope s_l_number) .none kV_l_number dc_l_number pm_l_number an_l_number cd_l_number ct_l_number), sl_l_number⟩)
    (h_l_l_is : K.lookup f_l_is = some ⟨oc_l_is, od_l_is, .func (PySem.W.fnOf "_law_is" "_law_is" (defArgs s_l_is) (defBody s_l_is) (defScope s_l_is) .none kV_l_is dc_l_is pm_l_is an_l_is cd_l_is ct_l_is), sl_l_is⟩)
    (h_l_l_stepped : K.lookup f_l_stepped = some ⟨oc_l_stepped, od_l_stepped, .func (PySem.W.fnOf "_law_stepped" "_law_stepped" (defArgs s_l_stepped) (defBody s_l_stepped) (defScope s_l_stepped) .none kV_l_stepped dc_l_stepped pm_l_stepped an_l_stepped cd_l_stepped ct_l_stepped), sl_l_stepped⟩)
    (h_l_l_made_of : K.lookup f_l_made_of = some ⟨oc_l_made_of, od_l_made_of, .func (PySem.W.fnOf "_law_made_of" "_law_made_of" (defArgs s_l_made_of) (defBody s_l_made_of) (defScope s_l_made_of) .none kV_l_made_of dc_l_made_of pm_l_made_of an_l_made_of cd_l_made_of ct_l_made_of), sl_l_made_of⟩)
    (h_l_law : K.lookup f_law = some ⟨oc_law, od_law, .func (PySem.W.fnOf "law" "law" (defArgs s_law) (defBody s_law) (defScope s_law) .none kV_law dc_law pm_law an_law cd_law ct_law), sl_law⟩)
    (h_lT_Counteru__initu_ : K.lookup dT_Counteru__initu_ = some ⟨oT_Counteru__initu_, odT_Counteru__initu_, .seq [.int 0 tk_Counteru__initu__0].toArray nT_Counteru__initu_, slT_Counteru__initu_⟩)
    (h_pg_Counter : PySem.W.plainGet K c_Counter Str.empty = true)
    (h_hd_Counter : PySem.W.hasDictIn K c_Counter = true)
    (h_po_Counter : PySem.W.plainOver K c_Counter = true)
    (h_sa_Counter : PySem.W.findIn K (.ref c_Counter) "__setattr__" = some (some (.builtin "object.__setattr__")))
    (h_mk_Counter : PySem.W.makesIn K c_Counter = true)
    (h_ii_Counter : PySem.W.isFn K (.ref f_Counteru__initu_) = true)
    (h_kp_Counter : PySem.W.keepIn K (.ref c_Counter) = true)
    (h_ha_Counter : PySem.W.findIn K (.ref c_Counter) "__class__" = some (some (.builtin "object.__class__")))
    (h_mo_Counter : PySem.W.mroIn K c_Counter (.type "object") = some true)
    (h_hn_Counter : PySem.W.specialIn K (.builtin "object.__class__") "__get__" = some (some (.builtin "getset_descriptor.__get__")))
    (h_htk_Counter : PySem.W.takesIn K (.builtin "object.__class__") = some true)
    (h_kt_Counter_Counter : PySem.W.kitOne K (.ref c_Counter) (.ref c_Counter) = some true)
    (h_kt_int_Counter : PySem.W.kitOne K (.type "int") (.ref c_Counter) = some false)
    (h_c_is_whole : PySem.W.codeIn K cd_is_whole "is_whole" = true)
    (h_k_is_whole : PySem.W.keepIn K (.ref f_is_whole) = true)
    (h_c_is_whole_from : PySem.W.codeIn K cd_is_whole_from "is_whole_from" = true)
    (h_k_is_whole_from : PySem.W.keepIn K (.ref f_is_whole_from) = true)
    (h_c_check_whole : PySem.W.codeIn K cd_check_whole "check_whole" = true)
    (h_k_check_whole : PySem.W.keepIn K (.ref f_check_whole) = true)
    (h_c_Counteru__initu_ : PySem.W.codeIn K cd_Counteru__initu_ "Counter.__init__" = true)
    (h_k_Counteru__initu_ : PySem.W.keepIn K (.ref f_Counteru__initu_) = true)
    (h_c_Counter_value : PySem.W.codeIn K cd_Counter_value "Counter.value" = true)
    (h_k_Counter_value : PySem.W.keepIn K (.ref f_Counter_value) = true)
    (h_i_Counter_change : PySem.W.isFn K (.ref f_Counter_change) = true)
    (h_c_Counter_change : PySem.W.codeIn K cd_Counter_change "Counter.change" = true)
    (h_k_Counter_change : PySem.W.keepIn K (.ref f_Counter_change) = true)
    (h_c_Counteru__addu_ : PySem.W.codeIn K cd_Counteru__addu_ "Counter.__add__" = true)
    (h_k_Counteru__addu_ : PySem.W.keepIn K (.ref f_Counteru__addu_) = true)
    (h_c_Counteru__raddu_ : PySem.W.codeIn K cd_Counteru__raddu_ "Counter.__radd__" = true)
    (h_k_Counteru__raddu_ : PySem.W.keepIn K (.ref f_Counteru__raddu_) = true)
    (h_c_Counteru__subu_ : PySem.W.codeIn K cd_Counteru__subu_ "Counter.__sub__" = true)
    (h_k_Counteru__subu_ : PySem.W.keepIn K (.ref f_Counteru__subu_) = true)
    (h_c_Counteru__iaddu_ : PySem.W.codeIn K cd_Counteru__iaddu_ "Counter.__iadd__" = true)
    (h_k_Counteru__iaddu_ : PySem.W.keepIn K (.ref f_Counteru__iaddu_) = true)
    (h_c_Counteru__isubu_ : PySem.W.codeIn K cd_Counteru__isubu_ "Counter.__isub__" = true)
    (h_k_Counteru__isubu_ : PySem.W.keepIn K (.ref f_Counteru__isubu_) = true)
    (h_c_check_divisor : PySem.W.codeIn K cd_check_divisor "check_divisor" = true)
    (h_k_check_divisor : PySem.W.keepIn K (.ref f_check_divisor) = true)
    (h_c_Counteru__floordivu_ : PySem.W.codeIn K cd_Counteru__floordivu_ "Counter.__floordiv__" = true)
    (h_k_Counteru__floordivu_ : PySem.W.keepIn K (.ref f_Counteru__floordivu_) = true)
    (h_c_Counteru__modu_ : PySem.W.codeIn K cd_Counteru__modu_ "Counter.__mod__" = true)
    (h_k_Counteru__modu_ : PySem.W.keepIn K (.ref f_Counteru__modu_) = true)
    (h_c_Counteru__andu_ : PySem.W.codeIn K cd_Counteru__andu_ "Counter.__and__" = true)
    (h_k_Counteru__andu_ : PySem.W.keepIn K (.ref f_Counteru__andu_) = true)
    (h_c_Counteru__equ_ : PySem.W.codeIn K cd_Counteru__equ_ "Counter.__eq__" = true)
    (h_k_Counteru__equ_ : PySem.W.keepIn K (.ref f_Counteru__equ_) = true)
    (h_c_l_source : PySem.W.codeIn K cd_l_source "_law_source" = true)
    (h_k_l_source : PySem.W.keepIn K (.ref f_l_source) = true)
    (h_c_l_draw : PySem.W.codeIn K cd_l_draw "_law_draw" = true)
    (h_k_l_draw : PySem.W.keepIn K (.ref f_l_draw) = true)
    (h_c_l_number : PySem.W.codeIn K cd_l_number "_law_number" = true)
    (h_k_l_number : PySem.W.keepIn K (.ref f_l_number) = true)
    (h_c_l_is : PySem.W.codeIn K cd_l_is "_law_is" = true)
    (h_k_l_is : PySem.W.keepIn K (.ref f_l_is) = true)
    (h_c_l_stepped : PySem.W.codeIn K cd_l_stepped "_law_stepped" = true)
    (h_k_l_stepped : PySem.W.keepIn K (.ref f_l_stepped) = true)
    (h_c_l_made_of : PySem.W.codeIn K cd_l_made_of "_law_made_of" = true)
    (h_k_l_made_of : PySem.W.keepIn K (.ref f_l_made_of) = true)
    (h_c_law : PySem.W.codeIn K cd_law "law" = true)
    (h_k_law : PySem.W.keepIn K (.ref f_law) = true)
    (h_pg_Counter_value : PySem.W.specialIn K (.ref p_Counter_value) "__get__" = some (some (.builtin "property.__get__")))
    (h_pt_Counter_value : PySem.W.takesIn K (.ref p_Counter_value) = some true)
    (h_sf_Counter : PySem.W.selfFirst K c_Counter = true)
    (h_i_Counteru__addu_ : PySem.W.isFn K (.ref f_Counteru__addu_) = true)
    (h_rc_Counteru__addu_ : PySem.W.findIn K (.ref c_Counter) (dunderR (Operator.info .Add).2) = some rc_Counteru__addu_)
    (h_rp_Counteru__addu_ : rc_Counteru__addu_ = none ∨ ∃ g : Addr, rc_Counteru__addu_ = some (.ref g))
    (h_fo_Counteru__addu_ : PySem.W.findIn K (.type "int") (PySem.dunder (Operator.info .Add).2) = some fo_Counteru__addu_)
    (h_ro_Counteru__addu_ : PySem.W.findIn K (.type "int") (dunderR (Operator.info .Add).2) = some ro_Counteru__addu_)
    (h_su_Counter : PySem.W.subIn K (.type "int") (.ref c_Counter) = some false)
    (h_l0_Counteru__raddu_ : PySem.W.findIn K (.ref c_Counter) (PySem.dunder (Operator.info .Add).2) = some (some (.ref l0_Counteru__raddu_)))
    (h_i_Counteru__raddu_ : PySem.W.isFn K (.ref f_Counteru__raddu_) = true)
    (h_sv_Counter : PySem.W.subIn K (.ref c_Counter) (.type "int") = some false)
    (h_i_Counteru__subu_ : PySem.W.isFn K (.ref f_Counteru__subu_) = true)
    (h_rc_Counteru__subu_ : PySem.W.findIn K (.ref c_Counter) (dunderR (Operator.info .Sub).2) = some rc_Counteru__subu_)
    (h_rp_Counteru__subu_ : rc_Counteru__subu_ = none ∨ ∃ g : Addr, rc_Counteru__subu_ = some (.ref g))
    (h_fo_Counteru__subu_ : PySem.W.findIn K (.type "int") (PySem.dunder (Operator.info .Sub).2) = some fo_Counteru__subu_)
    (h_ro_Counteru__subu_ : PySem.W.findIn K (.type "int") (dunderR (Operator.info .Sub).2) = some ro_Counteru__subu_)
    (h_i_Counteru__iaddu_ : PySem.W.isFn K (.ref f_Counteru__iaddu_) = true)
    (h_i_Counteru__isubu_ : PySem.W.isFn K (.ref f_Counteru__isubu_) = true)
    (h_i_Counteru__floordivu_ : PySem.W.isFn K (.ref f_Counteru__floordivu_) = true)
    (h_rc_Counteru__floordivu_ : PySem.W.findIn K (.ref c_Counter) (dunderR (Operator.info .FloorDiv).2) = some rc_Counteru__floordivu_)
    (h_rp_Counteru__floordivu_ : rc_Counteru__floordivu_ = none ∨ ∃ g : Addr, rc_Counteru__floordivu_ = some (.ref g))
    (h_fo_Counteru__floordivu_ : PySem.W.findIn K (.type "int") (PySem.dunder (Operator.info .FloorDiv).2) = some fo_Counteru__floordivu_)
    (h_ro_Counteru__floordivu_ : PySem.W.findIn K (.type "int") (dunderR (Operator.info .FloorDiv).2) = some ro_Counteru__floordivu_)
    (h_i_Counteru__modu_ : PySem.W.isFn K (.ref f_Counteru__modu_) = true)
    (h_rc_Counteru__modu_ : PySem.W.findIn K (.ref c_Counter) (dunderR (Operator.info .Mod).2) = some rc_Counteru__modu_)
    (h_rp_Counteru__modu_ : rc_Counteru__modu_ = none ∨ ∃ g : Addr, rc_Counteru__modu_ = some (.ref g))
    (h_fo_Counteru__modu_ : PySem.W.findIn K (.type "int") (PySem.dunder (Operator.info .Mod).2) = some fo_Counteru__modu_)
    (h_ro_Counteru__modu_ : PySem.W.findIn K (.type "int") (dunderR (Operator.info .Mod).2) = some ro_Counteru__modu_)
    (h_i_Counteru__andu_ : PySem.W.isFn K (.ref f_Counteru__andu_) = true)
    (h_rc_Counteru__andu_ : PySem.W.findIn K (.ref c_Counter) (dunderR (Operator.info .BitAnd).2) = some rc_Counteru__andu_)
    (h_rp_Counteru__andu_ : rc_Counteru__andu_ = none ∨ ∃ g : Addr, rc_Counteru__andu_ = some (.ref g))
    (h_fo_Counteru__andu_ : PySem.W.findIn K (.type "int") (PySem.dunder (Operator.info .BitAnd).2) = some fo_Counteru__andu_)
    (h_ro_Counteru__andu_ : PySem.W.findIn K (.type "int") (dunderR (Operator.info .BitAnd).2) = some ro_Counteru__andu_)
    (h_i_Counteru__equ_ : PySem.W.isFn K (.ref f_Counteru__equ_) = true)
    (h_ne_Counteru__equ_ : PySem.W.findIn K (.ref c_Counter) "__ne__" = some (some (.builtin "object.__ne__")))
    (h_ob_Counteru__equ_ : PySem.W.subIn K (.ref c_Counter) (.type "object") = some true)
    (h_nf_Counter_Counter : PySem.W.notFirst K c_Counter (.ref c_Counter) = true)
    (h_nf_int_Counter : PySem.W.notFirst K c_Counter (.type "int") = true)
    : ∃ fd : FuncData, (∀ (s : Shared) (v : Value), BindsTo s fd ⟨[v], []⟩ [("_law_script", v)]) ∧ ∀ base : Heap, K.In base → base.Ns mainGlobals mg → FnOk l.prog w K mg base CX0 8 fa fd ["_law_script"] (sp_law K) := by
  have e := hfa.symm.trans (PySem.W.mg_of X G h_m_law)
  cases e
  have T : Txt K mg ⟨f_is_whole, (PySem.W.fnOf "is_whole" "is_whole" (defArgs s_is_whole) (defBody s_is_whole) (defScope s_is_whole) .none kV_is_whole dc_is_whole pm_is_whole an_is_whole cd_is_whole ct_is_whole), f_is_whole_from, (PySem.W.fnOf "is_whole_from" "is_whole_from" (defArgs s_is_whole_from) (defBody s_is_whole_from) (defScope s_is_whole_from) .none kV_is_whole_from dc_is_whole_from pm_is_whole_from an_is_whole_from cd_is_whole_from ct_is_whole_from), f_check_whole, (PySem.W.fnOf "check_whole" "check_whole" (defArgs s_check_whole) (defBody s_check_whole) (defScope s_check_whole) .none kV_check_whole dc_check_whole pm_check_whole an_check_whole cd_check_whole ct_check_whole), f_Counteru__initu_, (PySem.W.fnOf "__init__" "Counter.__init__" (defArgs s_Counteru__initu_) (defBody s_Counteru__initu_) (defScope s_Counteru__initu_) (.ref dT_Counteru__initu_) kV_Counteru__initu_ dc_Counteru__initu_ pm_Counteru__initu_ an_Counteru__initu_ cd_Counteru__initu_ ct_Counteru__initu_), f_Counter_value, (PySem.W.fnOf "value" "Counter.value" (defArgs s_Counter_value) (defBody s_Counter_value) (defScope s_Counter_value) .none kV_Counter_value dc_Counter_value pm_Counter_value an_Counter_value cd_Counter_value ct_Counter_value), f_Counter_change, (PySem.W.fnOf "change" "Counter.change" (defArgs s_Counter_change) (defBody s_Counter_change) (defScope s_Counter_change) .none kV_Counter_change dc_Counter_change pm_Counter_change an_Counter_change cd_Counter_change ct_Counter_change), f_Counteru__addu_, (PySem.W.fnOf "__add__" "Counter.__add__" (defArgs s_Counteru__addu_) (defBody s_Counteru__addu_) (defScope s_Counteru__addu_) .none kV_Counteru__addu_ dc_Counteru__addu_ pm_Counteru__addu_ an_Counteru__addu_ cd_Counteru__addu_ ct_Counteru__addu_), f_Counteru__raddu_, (PySem.W.fnOf "__radd__" "Counter.__radd__" (defArgs s_Counteru__raddu_) (defBody s_Counteru__raddu_) (defScope s_Counteru__raddu_) .none kV_Counteru__raddu_ dc_Counteru__raddu_ pm_Counteru__raddu_ an_Counteru__raddu_ cd_Counteru__raddu_ ct_Counteru__raddu_), f_Counteru__subu_, (PySem.W.fnOf "__sub__" "Counter.__sub__" (defArgs s_Counteru__subu_) (defBody s_Counteru__subu_) (defScope s_Counteru__subu_) .none kV_Counteru__subu_ dc_Counteru__subu_ pm_Counteru__subu_ an_Counteru__subu_ cd_Counteru__subu_ ct_Counteru__subu_), f_Counteru__iaddu_, (PySem.W.fnOf "__iadd__" "Counter.__iadd__" (defArgs s_Counteru__iaddu_) (defBody s_Counteru__iaddu_) (defScope s_Counteru__iaddu_) .none kV_Counteru__iaddu_ dc_Counteru__iaddu_ pm_Counteru__iaddu_ an_Counteru__iaddu_ cd_Counteru__iaddu_ ct_Counteru__iaddu_), f_Counteru__isubu_, (PySem.W.fnOf "__isub__" "Counter.__isub__" (defArgs s_Counteru__isubu_) (defBody s_Counteru__isubu_) (defScope s_Counteru__isubu_) .none kV_Counteru__isubu_ dc_Counteru__isubu_ pm_Counteru__isubu_ an_Counteru__isubu_ cd_Counteru__isubu_ ct_Counteru__isubu_), f_check_divisor, (PySem.W.fnOf "check_divisor" "check_divisor" (defArgs s_check_divisor) (defBody s_check_divisor) (defScope s_check_divisor) .none kV_check_divisor dc_check_divisor pm_check_divisor an_check_divisor cd_check_divisor ct_check_divisor), f_Counteru__floordivu_, (PySem.W.fnOf "__floordiv__" "Counter.__floordiv__" (defArgs s_Counteru__floordivu_) (defBody s_Counteru__floordivu_) (defScope s_Counteru__floordivu_) .none kV_Counteru__floordivu_ dc_Counteru__floordivu_ pm_Counteru__floordivu_ an_Counteru__floordivu_ cd_Counteru__floordivu_ ct_Counteru__floordivu_), f_Counteru__modu_, (PySem.W.fnOf "__mod__" "Counter.__mod__" (defArgs s_Counteru__modu_) (defBody s_Counteru__modu_) (defScope s_Counteru__modu_) .none kV_Counteru__modu_ dc_Counteru__modu_ pm_Counteru__modu_ an_Counteru__modu_ cd_Counteru__modu_ ct_Counteru__modu_), f_Counteru__andu_, (PySem.W.fnOf "__and__" "Counter.__and__" (defArgs s_Counteru__andu_) (defBody s_Counteru__andu_) (defScope s_Counteru__andu_) .none kV_Counteru__andu_ dc_Counteru__andu_ pm_Counteru__andu_ an_Counteru__andu_ cd_Counteru__andu_ ct_Counteru__andu_), f_Counteru__equ_, (PySem.W.fnOf "__eq__" "Counter.__eq__" (defArgs s_Counteru__equ_) (defBody s_Counteru__equ_) (defScope s_Counteru__equ_) .none kV_Counteru__equ_ dc_Counteru__equ_ pm_Counteru__equ_ an_Counteru__equ_ cd_Counteru__equ_ ct_Counteru__equ_), f_l_source, (PySem.W.fnOf "_law_source" "_law_source" (defArgs s_l_source) (defBody s_l_source) (defScope s_l_source) .none kV_l_source dc_l_source pm_l_source an_l_source cd_l_source ct_l_source), f_l_draw, (PySem.W.fnOf "_law_draw" "_law_draw" (defArgs s_l_draw) (defBody s_l_draw) (defScope s_l_draw) .none kV_l_draw dc_l_draw pm_l_draw an_l_draw cd_l_draw ct_l_draw), f_l_number, (PySem.W.fnOf "_law_number" "_law_number" (defArgs s_l_number) (defBody s_l_number) (defScope s_l_number) .none kV_l_number dc_l_number pm_l_number an_l_number cd_l_number ct_l_number), f_l_is, (PySem.W.fnOf "_law_is" "_law_is" (defArgs s_l_is) (defBody s_l_is) (defScope s_l_is) .none kV_l_is dc_l_is pm_l_is an_l_is cd_l_is ct_l_is), f_l_stepped, (PySem.W.fnOf "_law_stepped" "_law_stepped" (defArgs s_l_stepped) (defBody s_l_stepped) (defScope s_l_stepped) .none kV_l_stepped dc_l_stepped pm_l_stepped an_l_stepped cd_l_stepped ct_l_stepped), f_l_made_of, (PySem.W.fnOf "_law_made_of" "_law_made_of" (defArgs s_l_made_of) (defBody s_l_made_of) (defScope s_l_made_of) .none kV_l_made_of dc_l_made_of pm_l_made_of an_l_made_of cd_l_made_of ct_l_made_of), fa, (PySem.W.fnOf "law" "law" (defArgs s_law) (defBody s_law) (defScope s_law) .none kV_law dc_law pm_law an_law cd_law ct_law), c_Counter, p_Counter_value, t_GREATEST_MODULUS⟩ := {
    n_abs := PySem.W.mg_none_of X G h_n_abs,
    n_bool := PySem.W.mg_none_of X G h_n_bool,
    n_int := PySem.W.mg_none_of X G h_n_int,
    n_isinstance := PySem.W.mg_none_of X G h_n_isinstance,
    n_len := PySem.W.mg_none_of X G h_n_len,
    n_max := PySem.W.mg_none_of X G h_n_max,
    n_min := PySem.W.mg_none_of X G h_n_min,
    n_range := PySem.W.mg_none_of X G h_n_range,
    m_GREATEST_MODULUS := PySem.W.mg_of X G h_m_GREATEST_MODULUS,
    m_Counter := PySem.W.mg_of X G h_m_Counter,
    k_Counter := ⟨h_pg_Counter, h_hd_Counter, h_po_Counter, h_sa_Counter⟩,
    n_Counter_modulus := h_n_Counter_modulus,
    n_Counter_value := h_n_Counter_value,
    K_Counter := ⟨h_mk_Counter, h_in_Counter, h_ii_Counter, h_kp_Counter⟩,
    i_Counter := ⟨h_ha_Counter, h_hn_Counter, h_htk_Counter, h_mo_Counter⟩,
    kt_Counter_Counter := h_kt_Counter_Counter,
    kt_int_Counter := h_kt_int_Counter,
    m_is_whole := PySem.W.mg_of X G h_m_is_whole,
    F_is_whole := fun_mk (st := s_is_whole) h_l_is_whole h_c_is_whole h_k_is_whole,
    b_is_whole := (fun_mk (st := s_is_whole) h_l_is_whole h_c_is_whole h_k_is_whole).binds fun _ _ _ _ _ _ us hl => match us, hl with | [_], _ => rfl,
    m_is_whole_from := PySem.W.mg_of X G h_m_is_whole_from,
    F_is_whole_from := fun_mk (st := s_is_whole_from) h_l_is_whole_from h_c_is_whole_from h_k_is_whole_from,
    b_is_whole_from := (fun_mk (st := s_is_whole_from) h_l_is_whole_from h_c_is_whole_from h_k_is_whole_from).binds fun _ _ _ _ _ _ us hl => match us, hl with | [_, _, _], _ => rfl,
    m_check_whole := PySem.W.mg_of X G h_m_check_whole,
    F_check_whole := fun_mk (st := s_check_whole) h_l_check_whole h_c_check_whole h_k_check_whole,
    b_check_whole := (fun_mk (st := s_check_whole) h_l_check_whole h_c_check_whole h_k_check_whole).binds fun _ _ _ _ _ _ us hl => match us, hl with | [_], _ => rfl,
    F_Counteru__initu_ := ⟨⟨_, _, _, _, _, _, _, _, _, _, rfl, h_l_Counteru__initu_, h_c_Counteru__initu_, .inr ⟨by simp, _, _, _, _, rfl, h_lT_Counteru__initu_, rfl, (.cons (show RelV (.int 0) (.int 0 tk_Counteru__initu__0) from ⟨_, rfl⟩) .nil)⟩, .inl rfl⟩, h_k_Counteru__initu_⟩,
    b_Counteru__initu_ := (by obtain ⟨ds, r, b⟩ := FunD.binds1 (ps := ["self", "modulus", "value"]) (⟨⟨_, _, _, _, _, _, _, _, _, _, rfl, h_l_Counteru__initu_, h_c_Counteru__initu_, .inr ⟨by simp, _, _, _, _, rfl, h_lT_Counteru__initu_, rfl, (.cons (show RelV (.int 0) (.int 0 tk_Counteru__initu__0) from ⟨_, rfl⟩) .nil)⟩, .inl rfl⟩, h_k_Counteru__initu_⟩) 3 1 (by simp) rfl (fun _ _ _ _ _ _ _ us its h1 h2 => match us, its, h1, h2 with | [_, _, _], [_], _, _ => ⟨_, rfl, rfl⟩); cases r; exact b),
    e_Counteru__initu_1 := FunD.binds1 (ps := ["self", "modulus", "value"]) (⟨⟨_, _, _, _, _, _, _, _, _, _, rfl, h_l_Counteru__initu_, h_c_Counteru__initu_, .inr ⟨by simp, _, _, _, _, rfl, h_lT_Counteru__initu_, rfl, (.cons (show RelV (.int 0) (.int 0 tk_Counteru__initu__0) from ⟨_, rfl⟩) .nil)⟩, .inl rfl⟩, h_k_Counteru__initu_⟩) 2 0 (by simp) rfl (fun _ _ _ _ _ _ _ us its h1 h2 => match us, its, h1, h2 with | [_, _], [_], _, _ => ⟨_, rfl, rfl⟩),
    F_Counter_value := fun_mk (st := s_Counter_value) h_l_Counter_value h_c_Counter_value h_k_Counter_value,
    b_Counter_value := (fun_mk (st := s_Counter_value) h_l_Counter_value h_c_Counter_value h_k_Counter_value).binds fun _ _ _ _ _ _ us hl => match us, hl with | [_], _ => rfl,
    M_Counter_change := ⟨h_a_Counter_change, h_i_Counter_change, h_k_Counter_change⟩,
    F_Counter_change := fun_mk (st := s_Counter_change) h_l_Counter_change h_c_Counter_change h_k_Counter_change,
    b_Counter_change := (fun_mk (st := s_Counter_change) h_l_Counter_change h_c_Counter_change h_k_Counter_change).binds fun _ _ _ _ _ _ us hl => match us, hl with | [_, _], _ => rfl,
    F_Counteru__addu_ := fun_mk (st := s_Counteru__addu_) h_l_Counteru__addu_ h_c_Counteru__addu_ h_k_Counteru__addu_,
    b_Counteru__addu_ := (fun_mk (st := s_Counteru__addu_) h_l_Counteru__addu_ h_c_Counteru__addu_ h_k_Counteru__addu_).binds fun _ _ _ _ _ _ us hl => match us, hl with | [_, _], _ => rfl,
    F_Counteru__raddu_ := fun_mk (st := s_Counteru__raddu_) h_l_Counteru__raddu_ h_c_Counteru__raddu_ h_k_Counteru__raddu_,
    b_Counteru__raddu_ := (fun_mk (st := s_Counteru__raddu_) h_l_Counteru__raddu_ h_c_Counteru__raddu_ h_k_Counteru__raddu_).binds fun _ _ _ _ _ _ us hl => match us, hl with | [_, _], _ => rfl,
    F_Counteru__subu_ := fun_mk (st := s_Counteru__subu_) h_l_Counteru__subu_ h_c_Counteru__subu_ h_k_Counteru__subu_,
    b_Counteru__subu_ := (fun_mk (st := s_Counteru__subu_) h_l_Counteru__subu_ h_c_Counteru__subu_ h_k_Counteru__subu_).binds fun _ _ _ _ _ _ us hl => match us, hl with | [_, _], _ => rfl,
    F_Counteru__iaddu_ := fun_mk (st := s_Counteru__iaddu_) h_l_Counteru__iaddu_ h_c_Counteru__iaddu_ h_k_Counteru__iaddu_,
    b_Counteru__iaddu_ := (fun_mk (st := s_Counteru__iaddu_) h_l_Counteru__iaddu_ h_c_Counteru__iaddu_ h_k_Counteru__iaddu_).binds fun _ _ _ _ _ _ us hl => match us, hl with | [_, _], _ => rfl,
    F_Counteru__isubu_ := fun_mk (st := s_Counteru__isubu_) h_l_Counteru__isubu_ h_c_Counteru__isubu_ h_k_Counteru__isubu_,
    b_Counteru__isubu_ := (fun_mk (st := s_Counteru__isubu_) h_l_Counteru__isubu_ h_c_Counteru__isubu_ h_k_Counteru__isubu_).binds fun _ _ _ _ _ _ us hl => match us, hl with | [_, _], _ => rfl,
    m_check_divisor := PySem.W.mg_of X G h_m_check_divisor,
    F_check_divisor := fun_mk (st := s_check_divisor) h_l_check_divisor h_c_check_divisor h_k_check_divisor,
    b_check_divisor := (fun_mk (st := s_check_divisor) h_l_check_divisor h_c_check_divisor h_k_check_divisor).binds fun _ _ _ _ _ _ us hl => match us, hl with | [_], _ => rfl,
    F_Counteru__floordivu_ := fun_mk (st := s_Counteru__floordivu_) h_l_Counteru__floordivu_ h_c_Counteru__floordivu_ h_k_Counteru__floordivu_,
    b_Counteru__floordivu_ := (fun_mk (st := s_Counteru__floordivu_) h_l_Counteru__floordivu_ h_c_Counteru__floordivu_ h_k_Counteru__floordivu_).binds fun _ _ _ _ _ _ us hl => match us, hl with | [_, _], _ => rfl,
    F_Counteru__modu_ := fun_mk (st := s_Counteru__modu_) h_l_Counteru__modu_ h_c_Counteru__modu_ h_k_Counteru__modu_,
    b_Counteru__modu_ := (fun_mk (st := s_Counteru__modu_) h_l_Counteru__modu_ h_c_Counteru__modu_ h_k_Counteru__modu_).binds fun _ _ _ _ _ _ us hl => match us, hl with | [_, _], _ => rfl,
    F_Counteru__andu_ := fun_mk (st := s_Counteru__andu_) h_l_Counteru__andu_ h_c_Counteru__andu_ h_k_Counteru__andu_,
    b_Counteru__andu_ := (fun_mk (st := s_Counteru__andu_) h_l_Counteru__andu_ h_c_Counteru__andu_ h_k_Counteru__andu_).binds fun _ _ _ _ _ _ us hl => match us, hl with | [_, _], _ => rfl,
    F_Counteru__equ_ := fun_mk (st := s_Counteru__equ_) h_l_Counteru__equ_ h_c_Counteru__equ_ h_k_Counteru__equ_,
    b_Counteru__equ_ := (fun_mk (st := s_Counteru__equ_) h_l_Counteru__equ_ h_c_Counteru__equ_ h_k_Counteru__equ_).binds fun _ _ _ _ _ _ us hl => match us, hl with | [_, _], _ => rfl,
    m_l_source := PySem.W.mg_of X G h_m_l_source,
    F_l_source := fun_mk (st := s_l_source) h_l_l_source h_c_l_source h_k_l_source,
    b_l_source := (fun_mk (st := s_l_source) h_l_l_source h_c_l_source h_k_l_source).binds fun _ _ _ _ _ _ us hl => match us, hl with | [_, _], _ => rfl,
    m_l_draw := PySem.W.mg_of X G h_m_l_draw,
    F_l_draw := fun_mk (st := s_l_draw) h_l_l_draw h_c_l_draw h_k_l_draw,
    b_l_draw := (fun_mk (st := s_l_draw) h_l_l_draw h_c_l_draw h_k_l_draw).binds fun _ _ _ _ _ _ us hl => match us, hl with | [_, _], _ => rfl,
    m_l_number := PySem.W.mg_of X G h_m_l_number,
    F_l_number := fun_mk (st := s_l_number) h_l_l_number h_c_l_number h_k_l_number,
    b_l_number := (fun_mk (st := s_l_number) h_l_l_number h_c_l_number h_k_l_number).binds fun _ _ _ _ _ _ us hl => match us, hl with | [_], _ => rfl,
    m_l_is := PySem.W.mg_of X G h_m_l_is,
    F_l_is := fun_mk (st := s_l_is) h_l_l_is h_c_l_is h_k_l_is,
    b_l_is := (fun_mk (st := s_l_is) h_l_l_is h_c_l_is h_k_l_is).binds fun _ _ _ _ _ _ us hl => match us, hl with | [_, _, _], _ => rfl,
    m_l_stepped := PySem.W.mg_of X G h_m_l_stepped,
    F_l_stepped := fun_mk (st := s_l_stepped) h_l_l_stepped h_c_l_stepped h_k_l_stepped,
    b_l_stepped := (fun_mk (st := s_l_stepped) h_l_l_stepped h_c_l_stepped h_k_l_stepped).binds fun _ _ _ _ _ _ us hl => match us, hl with | [_, _, _], _ => rfl,
    m_l_made_of := PySem.W.mg_of X G h_m_l_made_of,
    F_l_made_of := fun_mk (st := s_l_made_of) h_l_l_made_of h_c_l_made_of h_k_l_made_of,
    b_l_made_of := (fun_mk (st := s_l_made_of) h_l_l_made_of h_c_l_made_of h_k_l_made_of).binds fun _ _ _ _ _ _ us hl => match us, hl with | [_, _, _, _], _ => rfl,
    m_law := PySem.W.mg_of X G h_m_law,
    F_law := fun_mk (st := s_law) h_l_law h_c_law h_k_law,
    b_law := (fun_mk (st := s_law) h_l_law h_c_law h_k_law).binds fun _ _ _ _ _ _ us hl => match us, hl with | [_], _ => rfl,
    R_Counter_value := ⟨h_a1_Counter_value, h_pg_Counter_value, h_pt_Counter_value, ⟨_, h_a2_Counter_value⟩⟩,
    O_Counteru__addu__S := ⟨h_sf_Counter, h_bn_Counteru__addu_, h_i_Counteru__addu_⟩,
    O_Counteru__addu__T := ⟨⟨h_sf_Counter, h_bn_Counteru__addu_, h_i_Counteru__addu_⟩, ⟨_, h_rc_Counteru__addu_, h_rp_Counteru__addu_⟩, ⟨_, h_fo_Counteru__addu_⟩, ⟨_, h_ro_Counteru__addu_⟩, h_su_Counter⟩,
    O_Counteru__raddu__R := ⟨h_sf_Counter, ⟨_, h_l0_Counteru__raddu_⟩, h_br_Counteru__raddu_, h_i_Counteru__raddu_, h_sv_Counter⟩,
    O_Counteru__subu__S := ⟨h_sf_Counter, h_bn_Counteru__subu_, h_i_Counteru__subu_⟩,
    O_Counteru__subu__T := ⟨⟨h_sf_Counter, h_bn_Counteru__subu_, h_i_Counteru__subu_⟩, ⟨_, h_rc_Counteru__subu_, h_rp_Counteru__subu_⟩, ⟨_, h_fo_Counteru__subu_⟩, ⟨_, h_ro_Counteru__subu_⟩, h_su_Counter⟩,
    O_Counteru__iaddu__I := ⟨h_sf_Counter, h_bx_Counteru__iaddu_, h_i_Counteru__iaddu_⟩,
    O_Counteru__isubu__I := ⟨h_sf_Counter, h_bx_Counteru__isubu_, h_i_Counteru__isubu_⟩,
    O_Counteru__floordivu__S := ⟨h_sf_Counter, h_bn_Counteru__floordivu_, h_i_Counteru__floordivu_⟩,
    O_Counteru__floordivu__T := ⟨⟨h_sf_Counter, h_bn_Counteru__floordivu_, h_i_Counteru__floordivu_⟩, ⟨_, h_rc_Counteru__floordivu_, h_rp_Counteru__floordivu_⟩, ⟨_, h_fo_Counteru__floordivu_⟩, ⟨_, h_ro_Counteru__floordivu_⟩, h_su_Counter⟩,
    O_Counteru__modu__S := ⟨h_sf_Counter, h_bn_Counteru__modu_, h_i_Counteru__modu_⟩,
    O_Counteru__modu__T := ⟨⟨h_sf_Counter, h_bn_Counteru__modu_, h_i_Counteru__modu_⟩, ⟨_, h_rc_Counteru__modu_, h_rp_Counteru__modu_⟩, ⟨_, h_fo_Counteru__modu_⟩, ⟨_, h_ro_Counteru__modu_⟩, h_su_Counter⟩,
    O_Counteru__andu__S := ⟨h_sf_Counter, h_bn_Counteru__andu_, h_i_Counteru__andu_⟩,
    O_Counteru__andu__T := ⟨⟨h_sf_Counter, h_bn_Counteru__andu_, h_i_Counteru__andu_⟩, ⟨_, h_rc_Counteru__andu_, h_rp_Counteru__andu_⟩, ⟨_, h_fo_Counteru__andu_⟩, ⟨_, h_ro_Counteru__andu_⟩, h_su_Counter⟩,
    O_Counteru__equ__1 := ⟨h_a_Counteru__equ_, h_i_Counteru__equ_⟩,
    O_Counteru__equ__N := ⟨h_ne_Counteru__equ_, h_a_Counteru__equ_, h_i_Counteru__equ_, h_ob_Counteru__equ_⟩,
    nf_Counter_Counter := h_nf_Counter_Counter,
    nf_int_Counter := h_nf_int_Counter }
  exact ⟨_, fun s v => .of_eq rfl, fun base _ _ => ok_law T⟩
theorem walk {l : PySem.W.OpenLaw} {q : Program} {loose : List Str} {XP : (Str → Option Value) → Heap → Prop} {YP : World → Heap → Prop} {d : DefRec} {K : Params → PySem.W.Frag} (hn : l.most = some 63) (hdf : d.params.defaults = [])
    (hY : ∀ (w : World) (h : Heap), YP w h → (K w.params).In h)
    (F : ∀ (w : World) (mg : Str → Option Value) (fa : Addr) (h : Heap), (K w.params).In h → h.Ns mainGlobals mg → mg d.name = some (.ref fa) →
      ∃ fd : FuncData, (∀ (s : Shared) (u : Value), BindsTo s fd ⟨[u], []⟩ [("_law_script", u)]) ∧ ∀ base : Heap, (K w.params).In base → base.Ns mainGlobals mg → FnOk l.prog w (K w.params) mg base CX0 8 fa fd ["_law_script"] (sp_law (K w.params))) :
    PySem.W.WalkO q loose XP YP l.row.toRowW d [] (fun f vs => PySem.call f vs) :=
  L2.walk_of (n := 63) (k := 8) (x := "_law_script") (CX := fun _ => CX0) (sp := fun w => sp_law (K w.params)) hn (by decide) hdf ⟨rfl, by decide, by decide⟩ hY F (fun _ _ a ns hl _ hS => ⟨a, ns, rfl, hS, hl, fun _ => rfl⟩) fun _ _ _ _ _ z => z
end Pk05
open PySem PySem.W PyProof.Rows
set_option maxRecDepth 100000 in
set_option maxHeartbeats 0 in
theorem PySem.Challenge.cw_ringindexes_k05_counters_stepped_holds : PySem.Challenge.rw_ringindexes_k05_counters_stepped.Holds := by
  w_on; o_law; k_head; (case hw => w_witness2)
  k_fill
  refine Pk05.walk (l := PySem.Challenge.rw_ringindexes_k05_counters_stepped) rfl rfl (fun w h Y => PySem.W.kIn_of Y) ?F
  case F =>
    intro w mg fa h KX G hmg
    refine' Pk05.all_mk KX G hmg ?h_n_abs ?h_n_bool ?h_n_int ?h_n_isinstance ?h_n_len ?h_n_max ?h_n_min ?h_n_range ?h_m_GREATEST_MODULUS ?h_m_Counter ?h_n_Counter_modulus ?h_n_Counter_value ?h_m_is_whole ?h_m_is_whole_from ?h_m_check_whole ?h_m_check_divisor ?h_m_l_source ?h_m_l_draw ?h_m_l_number ?h_m_l_is ?h_m_l_stepped ?h_m_l_made_of ?h_m_law ?h_in_Counter ?h_a_Counter_change ?h_a1_Counter_value ?h_bn_Counteru__addu_ ?h_br_Counteru__raddu_ ?h_bn_Counteru__subu_ ?h_bx_Counteru__iaddu_ ?h_bx_Counteru__isubu_ ?h_bn_Counteru__floordivu_ ?h_bn_Counteru__modu_ ?h_bn_Counteru__andu_ ?h_a_Counteru__equ_ ?h_a2_Counter_value ?h_l_is_whole ?h_l_is_whole_from ?h_l_check_whole ?h_l_Counteru__initu_ ?h_l_Counter_value ?h_l_Counter_change ?h_l_Counteru__addu_ ?h_l_Counteru__raddu_ ?h_l_Counteru__subu_ ?h_l_Counteru__iaddu_ ?h_l_Counteru__isubu_ ?h_l_check_divisor ?h_l_Counteru__floordivu_ ?h_l_Counteru__modu_ ?h_l_Counteru__andu_ ?h_l_Counteru__equ_ ?h_l_l_source ?h_l_l_draw ?h_l_l_number ?h_l_l_is ?h_l_l_stepped ?h_l_l_made_of ?h_l_law ?h_lT_Counteru__initu_ ?h_pg_Counter ?h_hd_Counter ?h_po_Counter ?h_sa_Counter ?h_mk_Counter ?h_ii_Counter ?h_kp_Counter ?h_ha_Counter ?h_mo_Counter ?h_hn_Counter ?h_htk_Counter ?h_kt_Counter_Counter ?h_kt_int_Counter ?h_c_is_whole ?h_k_is_whole ?h_c_is_whole_from ?h_k_is_whole_from ?h_c_check_whole ?h_k_check_whole ?h_c_Counteru__initu_ ?h_k_Counteru__initu_ ?h_c_Counter_value ?h_k_Counter_value ?h_i_Counter_change ?h_c_Counter_change ?h_k_Counter_change ?h_c_Counteru__addu_ ?h_k_Counteru__addu_ ?h_c_Counteru__raddu_ ?h_k_Counteru__raddu_ ?h_c_Counteru__subu_ ?h_k_Counteru__subu_ ?h_c_Counteru__iaddu_ ?h_k_Counteru__iaddu_ ?h_c_Counteru__isubu_ ?h_k_Counteru__isubu_ ?h_c_check_divisor ?h_k_check_divisor ?h_c_Counteru__floordivu_ ?h_k_Counteru__floordivu_ ?h_c_Counteru__modu_ ?h_k_Counteru__modu_ ?h_c_Counteru__andu_ ?h_k_Counteru__andu_ ?h_c_Counteru__equ_ ?h_k_Counteru__equ_ ?h_c_l_source ?h_k_l_source ?h_c_l_draw ?h_k_l_draw ?h_c_l_number ?h_k_l_number ?h_c_l_is ?h_k_l_is ?h_c_l_stepped ?h_k_l_stepped ?h_c_l_made_of ?h_k_l_made_of ?h_c_law ?h_k_law ?h_pg_Counter_value ?h_pt_Counter_value ?h_sf_Counter ?h_i_Counteru__addu_ ?h_rc_Counteru__addu_ ?h_rp_Counteru__addu_ ?h_fo_Counteru__addu_ ?h_ro_Counteru__addu_ ?h_su_Counter ?h_l0_Counteru__raddu_ ?h_i_Counteru__raddu_ ?h_sv_Counter ?h_i_Counteru__subu_ ?h_rc_Counteru__subu_ ?h_rp_Counteru__subu_ ?h_fo_Counteru__subu_ ?h_ro_Counteru__subu_ ?h_i_Counteru__iaddu_ ?h_i_Counteru__isubu_ ?h_i_Counteru__floordivu_ ?h_rc_Counteru__floordivu_ ?h_rp_Counteru__floordivu_ ?h_fo_Counteru__floordivu_ ?h_ro_Counteru__floordivu_ ?h_i_Counteru__modu_ ?h_rc_Counteru__modu_ ?h_rp_Counteru__modu_ ?h_fo_Counteru__modu_ ?h_ro_Counteru__modu_ ?h_i_Counteru__andu_ ?h_rc_Counteru__andu_ ?h_rp_Counteru__andu_ ?h_fo_Counteru__andu_ ?h_ro_Counteru__andu_ ?h_i_Counteru__equ_ ?h_ne_Counteru__equ_ ?h_ob_Counteru__equ_ ?h_nf_Counter_Counter ?h_nf_int_Counter
    (case h_n_abs => k_is)
    (case h_n_bool => k_is)
    (case h_n_int => k_is)
    (case h_n_isinstance => k_is)
    (case h_n_len => k_is)
    (case h_n_max => k_is)
    (case h_n_min => k_is)
    (case h_n_range => k_is)
    (case h_m_GREATEST_MODULUS => k_is)
    (case h_m_Counter => k_is)
    (case h_n_Counter_modulus => k_is)
    (case h_n_Counter_value => k_is)
    (case h_m_is_whole => k_is)
    (case h_m_is_whole_from => k_is)
    (case h_m_check_whole => k_is)
    (case h_m_check_divisor => k_is)
    (case h_m_l_source => k_is)
    (case h_m_l_draw => k_is)
    (case h_m_l_number => k_is)
    (case h_m_l_is => k_is)
    (case h_m_l_stepped => k_is)
    (case h_m_l_made_of => k_is)
    (case h_m_law => k_is)
    (case h_in_Counter => k_is)
    (case h_a_Counter_change => k_is)
    (case h_a1_Counter_value => k_is)
    (case h_bn_Counteru__addu_ => k_is)
    (case h_br_Counteru__raddu_ => k_is)
    (case h_bn_Counteru__subu_ => k_is)
    (case h_bx_Counteru__iaddu_ => k_is)
    (case h_bx_Counteru__isubu_ => k_is)
    (case h_bn_Counteru__floordivu_ => k_is)
    (case h_bn_Counteru__modu_ => k_is)
    (case h_bn_Counteru__andu_ => k_is)
    (case h_a_Counteru__equ_ => k_is)
    (case h_a2_Counter_value => k_is)
    (case h_l_is_whole => k_is)
    (case h_l_is_whole_from => k_is)
    (case h_l_check_whole => k_is)
    (case h_l_Counteru__initu_ => k_is)
    (case h_l_Counter_value => k_is)
    (case h_l_Counter_change => k_is)
    (case h_l_Counteru__addu_ => k_is)
    (case h_l_Counteru__raddu_ => k_is)
    (case h_l_Counteru__subu_ => k_is)
    (case h_l_Counteru__iaddu_ => k_is)
    (case h_l_Counteru__isubu_ => k_is)
    (case h_l_check_divisor => k_is)
    (case h_l_Counteru__floordivu_ => k_is)
    (case h_l_Counteru__modu_ => k_is)
    (case h_l_Counteru__andu_ => k_is)
    (case h_l_Counteru__equ_ => k_is)
    (case h_l_l_source => k_is)
    (case h_l_l_draw => k_is)
    (case h_l_l_number => k_is)
    (case h_l_l_is => k_is)
    (case h_l_l_stepped => k_is)
    (case h_l_l_made_of => k_is)
    (case h_l_law => k_is)
    (case h_lT_Counteru__initu_ => k_is)
    (case h_pg_Counter => k_is)
    (case h_hd_Counter => k_is)
    (case h_po_Counter => k_is)
    (case h_sa_Counter => k_is)
    (case h_mk_Counter => k_is)
    (case h_ii_Counter => k_is)
    (case h_kp_Counter => k_is)
    (case h_ha_Counter => k_is)
    (case h_mo_Counter => k_is)
    (case h_hn_Counter => k_is)
    (case h_htk_Counter => k_is)
    (case h_kt_Counter_Counter => kit_is)
    (case h_kt_int_Counter => kit_is)
    (case h_c_is_whole => k_is)
    (case h_k_is_whole => k_is)
    (case h_c_is_whole_from => k_is)
    (case h_k_is_whole_from => k_is)
    (case h_c_check_whole => k_is)
    (case h_k_check_whole => k_is)
    (case h_c_Counteru__initu_ => k_is)
    (case h_k_Counteru__initu_ => k_is)
    (case h_c_Counter_value => k_is)
    (case h_k_Counter_value => k_is)
    (case h_i_Counter_change => k_is)
    (case h_c_Counter_change => k_is)
    (case h_k_Counter_change => k_is)
    (case h_c_Counteru__addu_ => k_is)
    (case h_k_Counteru__addu_ => k_is)
    (case h_c_Counteru__raddu_ => k_is)
    (case h_k_Counteru__raddu_ => k_is)
    (case h_c_Counteru__subu_ => k_is)
    (case h_k_Counteru__subu_ => k_is)
    (case h_c_Counteru__iaddu_ => k_is)
    (case h_k_Counteru__iaddu_ => k_is)
    (case h_c_Counteru__isubu_ => k_is)
    (case h_k_Counteru__isubu_ => k_is)
    (case h_c_check_divisor => k_is)
    (case h_k_check_divisor => k_is)
    (case h_c_Counteru__floordivu_ => k_is)
    (case h_k_Counteru__floordivu_ => k_is)
    (case h_c_Counteru__modu_ => k_is)
    (case h_k_Counteru__modu_ => k_is)
    (case h_c_Counteru__andu_ => k_is)
    (case h_k_Counteru__andu_ => k_is)
    (case h_c_Counteru__equ_ => k_is)
    (case h_k_Counteru__equ_ => k_is)
    (case h_c_l_source => k_is)
    (case h_k_l_source => k_is)
    (case h_c_l_draw => k_is)
    (case h_k_l_draw => k_is)
    (case h_c_l_number => k_is)
    (case h_k_l_number => k_is)
    (case h_c_l_is => k_is)
    (case h_k_l_is => k_is)
    (case h_c_l_stepped => k_is)
    (case h_k_l_stepped => k_is)
    (case h_c_l_made_of => k_is)
    (case h_k_l_made_of => k_is)
    (case h_c_law => k_is)
    (case h_k_law => k_is)
    (case h_pg_Counter_value => k_is)
    (case h_pt_Counter_value => k_is)
    (case h_sf_Counter => k_is)
    (case h_i_Counteru__addu_ => k_is)
    (case h_rc_Counteru__addu_ => k_is)
    (case h_rp_Counteru__addu_ => first | exact .inl rfl | exact .inr ⟨_, rfl⟩)
    (case h_fo_Counteru__addu_ => k_is)
    (case h_ro_Counteru__addu_ => k_is)
    (case h_su_Counter => k_is)
    (case h_l0_Counteru__raddu_ => k_is)
    (case h_i_Counteru__raddu_ => k_is)
    (case h_sv_Counter => k_is)
    (case h_i_Counteru__subu_ => k_is)
    (case h_rc_Counteru__subu_ => k_is)
    (case h_rp_Counteru__subu_ => first | exact .inl rfl | exact .inr ⟨_, rfl⟩)
    (case h_fo_Counteru__subu_ => k_is)
    (case h_ro_Counteru__subu_ => k_is)
    (case h_i_Counteru__iaddu_ => k_is)
    (case h_i_Counteru__isubu_ => k_is)
    (case h_i_Counteru__floordivu_ => k_is)
    (case h_rc_Counteru__floordivu_ => k_is)
    (case h_rp_Counteru__floordivu_ => first | exact .inl rfl | exact .inr ⟨_, rfl⟩)
    (case h_fo_Counteru__floordivu_ => k_is)
    (case h_ro_Counteru__floordivu_ => k_is)
    (case h_i_Counteru__modu_ => k_is)
    (case h_rc_Counteru__modu_ => k_is)
    (case h_rp_Counteru__modu_ => first | exact .inl rfl | exact .inr ⟨_, rfl⟩)
    (case h_fo_Counteru__modu_ => k_is)
    (case h_ro_Counteru__modu_ => k_is)
    (case h_i_Counteru__andu_ => k_is)
    (case h_rc_Counteru__andu_ => k_is)
    (case h_rp_Counteru__andu_ => first | exact .inl rfl | exact .inr ⟨_, rfl⟩)
    (case h_fo_Counteru__andu_ => k_is)
    (case h_ro_Counteru__andu_ => k_is)
    (case h_i_Counteru__equ_ => k_is)
    (case h_ne_Counteru__equ_ => k_is)
    (case h_ob_Counteru__equ_ => k_is)
    (case h_nf_Counter_Counter => k_is)
    (case h_nf_int_Counter => k_is)
