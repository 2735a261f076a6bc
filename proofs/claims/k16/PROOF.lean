import PyProof.Rows.All
import Wide.All
import OpenK.AllK
import Wide.FinOn
import PyProof.EqAt
import PyProof.EqKinds
import PyProof.TupleCall
import PyProof.InstNe
import KE.RegKIsAll
import HandS.ForMost
import HandS.Wide
import HandS.IsInst
import HandS.OwnEq
import HandS.Star
import HandS.Property
import HandS.Defaults
import HandS.WordsExc
import HandS.ExcOwn
import HandS.TupLe
import HandS.SortKw
import KE.KMinBuiltin
import HandS.TryOnly
import HandS.ExcIs
import HandS.CallLocal
import HandS.Walk
import HandS.Records
import PyProof.SeqIndex
import PySem.Challenge.RW_ringindexes_k16_queues_in_order
set_option Elab.async false
set_option linter.all false
set_option maxRecDepth 100000
set_option maxHeartbeats 40000000
/-! ## steps of readings: each lemma opens one construct -/
namespace Rd
open PySem PySem.Spec PyProof.Rows L2

section
variable {σ : L2.St} {H : Hp} {Q : VK} {D : Ends} {K : PySem.W.Frag}
theorem seq {t u : TS} (h : t { D with nx := u D } σ H) : tSeq t u D σ H := h
theorem next (h : D.nx σ H) : tNext D σ H := h
theorem drop {te : TE} (h : te σ H fun _ H1 => D.nx σ H1) : tDrop te D σ H := h
theorem ret {te : TE} (h : te σ H D.rt) : tRet te D σ H := h
theorem retN (h : D.rt .non H) : tRetN D σ H := h
theorem brk (h : D.bk σ H) : tBreak D σ H := h
theorem cont (h : D.ct σ H) : tCont D σ H := h
theorem ifS {c : TT} {t u : TS} (h : c σ H fun b H1 => if b = true then t D σ H1 else u D σ H1) : tIfS c t u D σ H := h
theorem asg {te : TE} {g : TG} (h : te σ H fun x H1 => g x σ H1 D.nx) : tAsg te g D σ H := h
theorem name {i : Nat} {v : V} {q : L2.St → Hp → Prop} (h : q (σ.set i (some v)) H) : gName i v σ H q := h
theorem par {i j : Nat} {ta : TA} (h : ta σ H fun vs H1 => ∃ v w, vs = [v, w] ∧ D.nx ((σ.set i (some v)).set j (some w)) H1) : tPar i j ta D σ H := h
theorem par2 {i j : Nat} {v w : V} (h : D.nx ((σ.set i (some v)).set j (some w)) H) : ∃ v' w', [v, w] = [v', w'] ∧ D.nx ((σ.set i (some v')).set j (some w')) H := ⟨v, w, rfl, h⟩
theorem var {i : Nat} {v : V} (e : σ[i]? = some (some v)) (h : Q v H) : tVar i σ H Q := ⟨v, e, h⟩
theorem c {v : V} (h : Q v H) : tC v σ H Q := h
theorem op {r : R2} {ta tb : TE} (h : ta σ H fun x H1 => tb σ H1 fun y H2 => r x y H2 Q) : tOp r ta tb σ H Q := h
theorem un {r : V → Hp → VK → Prop} {ta : TE} (h : ta σ H fun x H1 => r x H1 Q) : tUn r ta σ H Q := h
theorem i0 {g : Int → Int → V} {i j : Int} (h : Q (g i j) H) : rI0 g (.int i) (.int j) H Q := ⟨i, j, rfl, rfl, h⟩
theorem iC {C : Int → Int → Prop} {g : Int → Int → V} {i j : Int} (e : C i j) (h : Q (g i j) H) : rI C g (.int i) (.int j) H Q := ⟨i, j, rfl, rfl, e, h⟩
theorem iU {g : Int → V} {i : Int} (h : Q (g i) H) : rU g (.int i) H Q := ⟨i, rfl, h⟩
theorem eqS {x y : V} (e : scal x y = true) (h : Q (.bl (decide (x = y))) H) : rEq x y H Q := ⟨e, h⟩
theorem neS {x y : V} (e : scal x y = true) (h : Q (.bl (!decide (x = y))) H) : rNe x y H Q := ⟨e, h⟩
theorem addS {i j : Str} (e : i.length + j.length ≤ sizeLine) (h : Q (.str (i ++ j)) H) : ∃ a b, V.str i = .str a ∧ V.str j = .str b ∧ a.length + b.length ≤ sizeLine ∧ Q (.str (a ++ b)) H := ⟨i, j, rfl, rfl, e, h⟩
theorem isN {x : V} (h : Q (.bl (decide (x = .non))) H) : V.non = .non ∧ Q (.bl (decide (x = .non))) H := ⟨rfl, h⟩
theorem notN {x : V} (h : Q (.bl (!decide (x = .non))) H) : V.non = .non ∧ Q (.bl (!decide (x = .non))) H := ⟨rfl, h⟩
theorem chain {r r' : R2} {ta tb tc : TE} (h : ta σ H fun x H1 => tb σ H1 fun y H2 => r x y H2 fun z H3 => ∃ k, z = .bl k ∧ (if k = true then tc σ H3 fun w' H4 => r' y w' H4 Q else Q (.bl false) H3)) : tChain r r' ta tb tc σ H Q := h
theorem bl {k : Bool} {A : Bool → Prop} (h : A k) : ∃ c, V.bl k = .bl c ∧ A c := ⟨k, rfl, h⟩
theorem test {t : TE} {q : Bool → Hp → Prop} (h : t σ H fun x H' => ∃ k, x = .bl k ∧ q k H') : tTest t σ H q := h
theorem tb {t : TE} {q : Bool → Hp → Prop} (h : t σ H fun x H' => ∃ k, x = .bl k ∧ q k H') : tB t σ H q := h
theorem and {t u : TT} {q : Bool → Hp → Prop} (h : t σ H fun c H1 => if c = true then u σ H1 q else q false H1) : tAnd t u σ H q := h
theorem or {t u : TT} {q : Bool → Hp → Prop} (h : t σ H fun c H1 => if c = true then q true H1 else u σ H1 q) : tOr t u σ H q := h
theorem not {t : TT} {q : Bool → Hp → Prop} (h : t σ H fun c H1 => q (!c) H1) : tNot t σ H q := h
theorem andV {ta tb : TE} (h : ta σ H fun x H1 => ∃ c, x = .bl c ∧ if c = true then tb σ H1 Q else Q (.bl false) H1) : tAndV ta tb σ H Q := h
theorem orV {ta tb : TE} (h : ta σ H fun x H1 => ∃ c, x = .bl c ∧ if c = true then Q (.bl true) H1 else tb σ H1 Q) : tOrV ta tb σ H Q := h
theorem notV {ta : TE} (h : ta σ H fun x H1 => ∃ c, x = .bl c ∧ Q (.bl (!c)) H1) : tNotV ta σ H Q := h
theorem ifE {t : TT} {ta tb : TE} (h : t σ H fun c H1 => if c = true then ta σ H1 Q else tb σ H1 Q) : tIf t ta tb σ H Q := h
theorem nil {q : List V → Hp → Prop} (h : q [] H) : tNil σ H q := h
theorem cons {ta : TE} {tr : TA} {q : List V → Hp → Prop} (h : ta σ H fun x H1 => tr σ H1 fun xs H2 => q (x :: xs) H2) : tCons ta tr σ H q := h
theorem cB {r : List V → Hp → VK → Prop} {t : TA} (h : t σ H fun vs H1 => r vs H1 Q) : tCB r t σ H Q := h
theorem tup {t : TA} (h : t σ H fun xs H1 => xs.length ≤ sizeLine ∧ ∀ p, H1 p = none → Q (.ref p) (upd H1 p (.tup xs))) : tTup t σ H Q := h
theorem lst {t : TA} (h : t σ H fun xs H1 => xs.length ≤ sizeLine ∧ ∀ p, H1 p = none → Q (.ref p) (upd H1 p (.lst xs))) : tLst t σ H Q := h
theorem laid {xs : List V} {A : Addr → Prop} (e : xs.length ≤ 1000) (h : ∀ p, H p = none → A p) : xs.length ≤ sizeLine ∧ ∀ p, H p = none → A p := ⟨Nat.le_of_lt (small1000 e), h⟩
theorem call {sp : Sp} {dvs : List V} {E : XK} {t : TA} (h : t σ H fun vs H1 => sp (vs ++ dvs) H1 Q E) : tCall sp dvs E t σ H Q := h
theorem meth {C : Addr} {m : Str} {sp : Sp} {dvs : List V} {E : XK} {ta : TE} {t : TA} (h : ta σ H fun x H1 => ∃ a dx fs, x = .ref a ∧ H1 a = some (.ins C dx fs) ∧ fs.lookup m = none ∧ t σ H1 fun vs H2 => sp (x :: (vs ++ dvs)) H2 Q E) : tMeth C m sp dvs E ta t σ H Q := h
theorem meth2 {C a dx : Addr} {fs : List (Str × V)} {m : Str} {A : Prop} (e : H a = some (.ins C dx fs)) (l : fs.lookup m = none) (h : A) : ∃ a' dx fs, V.ref a = .ref a' ∧ H a' = some (.ins C dx fs) ∧ fs.lookup m = none ∧ A := ⟨a, dx, fs, rfl, e, l, h⟩
theorem make {C : Addr} {sp : Sp} {dvs : List V} {E : XK} {t : TA} (h : t σ H fun vs H1 => ∀ x dx, H1 x = none → H1 dx = none → dx ≠ x → sp (.ref x :: (vs ++ dvs)) (upd (upd H1 dx (.own x)) x (.ins C dx [])) (fun v H2 => v = .non ∧ Q (.ref x) H2) E) : tMake C sp dvs E t σ H Q := h
theorem fld {ta : TE} {f : Str} (h : ta σ H fun x H1 => ∃ a C dx fs v, x = .ref a ∧ H1 a = some (.ins C dx fs) ∧ Cls K C ∧ NoAttr K C f ∧ fs.lookup f = some v ∧ Q v H1) : tFld K ta f σ H Q := h
theorem fld2 {f : Str} {a C dx : Addr} {fs : List (Str × V)} {v : V} (e : H a = some (.ins C dx fs)) (k : Cls K C) (n : NoAttr K C f) (l : fs.lookup f = some v) (h : Q v H) :
    ∃ a' C' dx fs v, V.ref a = .ref a' ∧ H a' = some (.ins C' dx fs) ∧ Cls K C' ∧ NoAttr K C' f ∧ fs.lookup f = some v ∧ Q v H := ⟨a, C, dx, fs, v, rfl, e, k, n, l, h⟩
theorem sfld {ta tv : TE} {f : Str} (h : tv σ H fun y H1 => ta σ H1 fun x H2 => ∃ a C dx fs, x = .ref a ∧ H2 a = some (.ins C dx fs) ∧ Cls K C ∧ NoAttr K C f ∧ fs.length < 1000 ∧ D.nx σ (upd H2 a (.ins C dx (putF f y fs)))) : sFld K ta tv f D σ H := h
theorem gnil {q : L2.St → Hp → Prop} (h : q σ H) : gNil [] σ H q := ⟨rfl, h⟩
theorem gcons {t : TG} {u : TGs} {v : V} {r : List V} {q : L2.St → Hp → Prop} (h : t v σ H fun σ' H' => u r σ' H' q) : gCons t u (v :: r) σ H q := ⟨v, r, rfl, h⟩
theorem gtup {n : Nat} {t : TGs} {a : Addr} {xs : List V} {q : L2.St → Hp → Prop} (e : SqT K H a xs) (l : xs.length = n) (h : t xs σ H q) : gTup K n t (.ref a) σ H q := ⟨a, xs, rfl, e, l, h⟩
theorem fr {wi : TI} {g : TG} {tb : TS} (h : wi σ H fun J H1 => ∃ W : Nat → Nat → L2.St → Hp → Prop, (∃ m, W 0 m σ H1) ∧ ∀ i m σ H, W i m σ H →
    (J.stop i H ∧ D.nx σ H) ∨ (J.go i H ∧ ∃ N : L2.St → Hp → Prop, (∀ σ' H', N σ' H' → ∃ m', m' < m ∧ W (i + 1) m' σ' H') ∧ ∀ x H', J.yld i H x H' → g x σ H' fun σ2 H2 => tb { D with nx := N, ct := N, bk := D.nx } σ2 H2)) : tFor wi g tb D σ H := h
theorem rng1 {ta : TA} {R : It → Hp → Prop} (h : ta σ H fun vs H1 => ∃ j : Int, vs = [.int j] ∧ -(2 ^ 62) ≤ j ∧ j < 2 ^ 62 ∧ R (Itr 0 j.toNat) H1) : iRng1 ta σ H R := h
theorem prop {C : Addr} {sp : Sp} {dvs : List V} {E : XK} {ta : TE} (h : ta σ H fun x H1 => ∃ a dx fs, x = .ref a ∧ H1 a = some (.ins C dx fs) ∧ sp (.ref a :: dvs) H1 Q E) : tProp C sp dvs E ta σ H Q := h
theorem aug {i : Nat} {te : TE} {ti : TIp} {x : V} (e : σ[i]? = some (some x)) (h : te σ H fun y H1 => ti x y H1 fun z H2 => D.nx (σ.set i (some z)) H2) : tAug i te ti D σ H := ⟨x, e, h⟩
theorem ipI {f : Int → Int → Int} {i j : Int} (h : Q (.int (f i j)) H) : L2.ipI f (.int i) (.int j) H Q := ⟨i, j, rfl, rfl, h⟩
theorem ixL {a : Addr} {xs : List V} {i : Int} {v : V} (e : SqL K H a xs) (l : atI xs i = some v) (h : Q v H) : rIxL K (.ref a) (.int i) H Q := ⟨a, xs, i, v, rfl, rfl, e, l, h⟩
theorem ixT {a : Addr} {xs : List V} {i : Int} {v : V} (e : SqT K H a xs) (l : atI xs i = some v) (h : Q v H) : rIxT K (.ref a) (.int i) H Q := ⟨a, xs, i, v, rfl, rfl, e, l, h⟩
theorem setL {a : Addr} {xs : List V} {k : Int} {j : Nat} {v : V} {q : Hp → Prop} (e : H a = some (.lst xs)) (l : ixN xs.length k = some j) (h : q (upd H a (.lst (xs.set j v)))) : rSetL (.ref a) (.int k) v H q := ⟨a, xs, k, j, rfl, rfl, e, l, h⟩
theorem sub {to ti : TE} {t : TSet} {v : V} {q : L2.St → Hp → Prop} (h : to σ H fun o H1 => ti σ H1 fun i H2 => t o i v H2 fun H3 => q σ H3) : gSub to ti t v σ H q := h
theorem lenQ {a : Addr} {xs : List V} (e : SqL K H a xs ∨ SqT K H a xs) (h : Q (.int xs.length) H) : ∃ p ys, [V.ref a] = [.ref p] ∧ (SqL K H p ys ∨ SqT K H p ys) ∧ Q (.int ys.length) H := ⟨a, xs, rfl, e, h⟩
theorem absI {i : Int} (h : Q (.int (if i < 0 then -i else i)) H) : ∃ j, [V.int i] = [.int j] ∧ Q (.int (if j < 0 then -j else j)) H := ⟨i, rfl, h⟩
theorem intI {i : Int} (h : Q (.int i) H) : (∃ j, [V.int i] = [.int j] ∧ Q (.int j) H) ∨ ∃ k, [V.int i] = [.bl k] ∧ Q (.int (if k then 1 else 0)) H := .inl ⟨i, rfl, h⟩
theorem ite {c A B : Prop} [Decidable c] (h1 : c → A) (h2 : ¬ c → B) : if c then A else B := by
  by_cases h : c
  · rw [if_pos h]; exact h1 h
  · rw [if_neg h]; exact h2 h
theorem iteT {b : Bool} {A B : Prop} (e : b = true) (h : A) : if b = true then A else B := by rw [if_pos e]; exact h
theorem iteF {b : Bool} {A B : Prop} (e : b = false) (h : B) : if b = true then A else B := by rw [e]; exact h
theorem andB {c d : Bool} {t : TE} (h1 : ∀ Q' : VK, Q' (.bl d) H → t σ H Q') (h : Q (.bl (c && d)) H) : if c = true then t σ H Q else Q (.bl false) H := by
  cases c with
  | true => exact h1 Q h
  | false => exact h
theorem orB {c d : Bool} {t : TE} (h1 : ∀ Q' : VK, Q' (.bl d) H → t σ H Q') (h : Q (.bl (c || d)) H) : if c = true then Q (.bl true) H else t σ H Q := by
  cases c with
  | true => exact h
  | false => exact h1 Q h
end
theorem lput {f : Str} {v : V} {fs : List (Str × V)} {n : Nat} (h : fs.length + 1 < n) : (putF f v fs).length < n := Nat.lt_of_le_of_lt (by have := length_putF f v fs; omega) h
theorem lputs {f : Str} {v : V} {fs : List (Str × V)} {n k : Nat} (h : fs.length + (k + 1) < n) : (putF f v fs).length + k < n := Nat.lt_of_le_of_lt (by have := length_putF f v fs; omega) h
theorem ty_tup {K : PySem.W.Frag} {H : Hp} {a : Addr} {xs : List V} (e : H a = some (.tup xs)) : TyX K H (.ref a) (.type "tuple") := .base (.tup e)
theorem ty_lst {K : PySem.W.Frag} {H : Hp} {a : Addr} {xs : List V} (e : H a = some (.lst xs)) : TyX K H (.ref a) (.type "list") := .base (.lst e)
section
variable {K : PySem.W.Frag}
theorem kit_int_int : PySem.W.kitOne K (.type "int") (.type "int") = some true := kit_ty (by decide +kernel)
theorem kit_bool_int : PySem.W.kitOne K (.type "bool") (.type "int") = some true := kit_ty (by decide +kernel)
theorem kit_str_int : PySem.W.kitOne K (.type "str") (.type "int") = some false := kit_ty (by decide +kernel)
theorem kit_none_int : PySem.W.kitOne K (.type "NoneType") (.type "int") = some false := kit_ty (by decide +kernel)
theorem kit_tuple_int : PySem.W.kitOne K (.type "tuple") (.type "int") = some false := kit_ty (by decide +kernel)
theorem kit_list_int : PySem.W.kitOne K (.type "list") (.type "int") = some false := kit_ty (by decide +kernel)
theorem kit_dict_int : PySem.W.kitOne K (.type "dict") (.type "int") = some false := kit_ty (by decide +kernel)
theorem kit_int_bool : PySem.W.kitOne K (.type "int") (.type "bool") = some false := kit_ty (by decide +kernel)
theorem kit_bool_bool : PySem.W.kitOne K (.type "bool") (.type "bool") = some true := kit_ty (by decide +kernel)
theorem kit_str_bool : PySem.W.kitOne K (.type "str") (.type "bool") = some false := kit_ty (by decide +kernel)
theorem kit_str_str : PySem.W.kitOne K (.type "str") (.type "str") = some true := kit_ty (by decide +kernel)
theorem kit_int_str : PySem.W.kitOne K (.type "int") (.type "str") = some false := kit_ty (by decide +kernel)
end
end Rd


/-! ## the operators of own classes, as rules of the layer -/
namespace Own
open PySem PySem.Spec PyProof.Rows L2
section
variable {X : Cx} {pins : List (Addr × Obj)} {σ : L2.St} {H : Hp} {s : Shared}
/-- a value of the layer is never the sign of a declined operator -/
theorem not_declined {v : V} {u : Value} (r : RelV v u) : u ≠ .notImplemented := by
  intro e
  subst e
  cases v with
  | non => cases (show Value.notImplemented = Value.none from r)
  | bl b => cases (show Value.notImplemented = Value.bool b from r)
  | int i => obtain ⟨t, q⟩ := (show ∃ t, Value.notImplemented = Value.int i t from r); cases q
  | str i => obtain ⟨t, q⟩ := (show ∃ t, Value.notImplemented = Value.str i t from r); cases q
  | byt i => obtain ⟨t, q⟩ := (show ∃ t, Value.notImplemented = Value.bytes i t from r); cases q
  | flt i => obtain ⟨t, q⟩ := (show ∃ t, Value.notImplemented = Value.float i t from r); cases q
  | ref a => cases (show Value.notImplemented = Value.ref a from r)
  | ty n => cases (show Value.notImplemented = Value.type n from r)
theorem back {M : Model} {A : Around} {E : Value → Shared → Prop} {m : Sem Value} {Q : VK} (h : wpAny M A m (EP X pins σ Q) E s) : wpAny M A m (PySem.W.CmpBack (EP X pins σ Q)) E s :=
  wpAny_mono h (fun u s' q => by
    have n : u ≠ .notImplemented := by
      obtain ⟨z, H', I, r, _⟩ := q
      exact not_declined r
    cases u <;> first | exact q | exact absurd rfl n) fun _ _ e => e
/-- an instance as the library's rules ask for it -/
theorem inst {a C dx : Addr} {fs : List (Str × V)} (I : Inv X pins σ H s) (h : H a = some (.ins C dx fs)) : ∃ od, PySem.W.InstAt s.heap a (PySem.W.instObj C dx) C od := by
  obtain ⟨mA, J, _⟩ := ins_get I.hok h
  obtain ⟨od, J, _⟩ := J.look
  exact ⟨_, J⟩
/-- the type of any value, told without a step that matters -/
theorem typed {M : Model} {x : V} {u : Value} {t : Value} (I : Inv X pins σ H s) (r : RelV x u) (ty : TyX X.K H x t) : PySem.W.Looks M s.heap (typeOf u) t := by
  obtain ⟨P, Z, p, _⟩ := kit_of I r ty
  exact Z.ty M s.heap I.kIn p
end

/-- an own method behind an operator -/
structure Sp1 (K : PySem.W.Frag) (C : Addr) (m : Str) (f : Addr) : Prop where
  at_ : PySem.W.findIn K (.ref C) m = some (some (.ref f))
  fn : PySem.W.isFn K (.ref f) = true
/-- a two-place operator of an own class -/
structure Bin (K : PySem.W.Frag) (C f : Addr) (op : Operator) : Prop where
  first : PySem.W.selfFirst K C = true
  at_ : PySem.W.findIn K (.ref C) (PySem.dunder op.info.2) = some (some (.ref f))
  fn : PySem.W.isFn K (.ref f) = true
/-- .. beside a value of the built-in type T -/
structure BinT (K : PySem.W.Frag) (C f : Addr) (op : Operator) (T : String) : Prop where
  b : Bin K C f op
  r : ∃ rc, PySem.W.findIn K (.ref C) (dunderR op.info.2) = some rc ∧ (rc = none ∨ ∃ g : Addr, rc = some (.ref g))
  l1 : ∃ fo, PySem.W.findIn K (.type T) (PySem.dunder op.info.2) = some fo
  l2 : ∃ ro, PySem.W.findIn K (.type T) (dunderR op.info.2) = some ro
  sub : PySem.W.subIn K (.type T) (.ref C) = some false

def rSame (C : Addr) (sp : Sp) (E : XK) : R2 := fun x y H Q => ∃ a b dx dy fs gs, x = .ref a ∧ y = .ref b ∧ H a = some (.ins C dx fs) ∧ H b = some (.ins C dy gs) ∧ sp [.ref a, .ref b] H Q E
def rLeft (C : Addr) (T : String) (sp : Sp) (E : XK) : R2 := fun x y H Q => ∃ a dx fs, x = .ref a ∧ H a = some (.ins C dx fs) ∧ (∀ u, RelV y u → typeOf u = pure (.type T)) ∧ sp [.ref a, y] H Q E
def rCmp (K : PySem.W.Frag) (C : Addr) (sp : Sp) (E : XK) : R2 := fun x y H Q => ∃ a dx fs t, x = .ref a ∧ H a = some (.ins C dx fs) ∧ TyX K H y t ∧ PySem.W.notFirst K C t = true ∧ sp [.ref a, y] H Q E
def rOne (C : Addr) (sp : Sp) (E : XK) : V → Hp → VK → Prop := fun x H Q => ∃ a dx fs, x = .ref a ∧ H a = some (.ins C dx fs) ∧ sp [.ref a] H Q E

section
variable {X : Cx} {CX : CXT} {k : Nat} {f C : Addr} {fd : FuncData} {ps : List Str} {sp : Sp} {E : XK} {op : Operator} {cop : CmpOp} {T : String}
theorem run2 {pins : List (Addr × Obj)} {σ : L2.St} {H : Hp} {s : Shared} {Q : VK} {x y : V} {u v : Value} (F : FnOk X.prog X.w X.K X.mg X.base CX k f fd ps sp) (hr : Room k X.A) (hb : Binds X.K fd ps []) (hx : Passes CX X E)
    (I : Inv X pins σ H s) (rx : RelV x u) (ry : RelV y v) (h : sp [x, y] H Q E) : wpAny (model X.prog X.w) X.A (call (.ref f) [u, v]) (EP X pins σ Q) X.xe s :=
  run_fn (us := [u, v]) (vs := [x, y]) F hr hb .nil hx I (.cons rx (.cons ry .nil)) h
theorem opS (F : FnOk X.prog X.w X.K X.mg X.base CX k f fd ps sp) (hr : Room k X.A) (B : Bin X.K C f op) (hb : Binds X.K fd ps []) (hx : Passes CX X E) : OpR X (binaryOp op) (rSame C sp E) := by
  rintro pins s σ H x y u v Q I rx ry ⟨a, b, dx, dy, fs, gs, rfl, rfl, ha, hb', q⟩
  cases rx
  cases ry
  obtain ⟨od, J⟩ := inst I ha
  obtain ⟨od', J'⟩ := inst I hb'
  obtain ⟨m, hF⟩ := I.fr
  exact PySem.W.binop_K hF I.ok.mod.kin J J'.type B.first B.at_ B.fn (back (run2 (x := .ref a) (y := .ref b) F hr hb hx I rfl rfl q))
theorem opT (F : FnOk X.prog X.w X.K X.mg X.base CX k f fd ps sp) (hr : Room k X.A) (B : BinT X.K C f op T) (hb : Binds X.K fd ps []) (hx : Passes CX X E) : OpR X (binaryOp op) (rLeft C T sp E) := by
  rintro pins s σ H x y u v Q I rx ry ⟨a, dx, fs, rfl, ha, ty, q⟩
  cases rx
  obtain ⟨od, J⟩ := inst I ha
  obtain ⟨m, hF⟩ := I.fr
  obtain ⟨⟨b1, b2, b3⟩, ⟨rc, r1, r2⟩, ⟨fo, l1⟩, ⟨ro, l2⟩, sb⟩ := B
  exact PySem.W.ksp_binT hF I.ok.mod.kin J (ty _ ry) b1 b2 b3 r1 r2 l1 l2 sb (back (run2 (x := .ref a) F hr hb hx I rfl ry q))
theorem iopT (F : FnOk X.prog X.w X.K X.mg X.base CX k f fd ps sp) (hr : Room k X.A) (h1 : PySem.W.selfFirst X.K C = true) (h2 : Sp1 X.K C (dunderI op.info.2) f) (hb : Binds X.K fd ps []) (hx : Passes CX X E) :
    OpR X (inplaceOp op) (fun x y H Q => ∃ a dx fs, x = .ref a ∧ H a = some (.ins C dx fs) ∧ sp [.ref a, y] H Q E) := by
  rintro pins s σ H x y u v Q I rx ry ⟨a, dx, fs, rfl, ha, q⟩
  cases rx
  obtain ⟨od, J⟩ := inst I ha
  obtain ⟨m, hF⟩ := I.fr
  exact PySem.W.ksp_inplace hF I.ok.mod.kin J h1 h2.at_ h2.fn (back (run2 (x := .ref a) F hr hb hx I rfl ry q))
theorem neg (F : FnOk X.prog X.w X.K X.mg X.base CX k f fd ps sp) (hr : Room k X.A) (B : Sp1 X.K C "__neg__" f) (hb : Binds X.K fd ps []) (hx : Passes CX X E) : UnR X (unaryOp .USub) (rOne C sp E) := by
  rintro pins s σ H x u Q I rx ⟨a, dx, fs, rfl, ha, q⟩
  cases rx
  obtain ⟨od, J⟩ := inst I ha
  obtain ⟨m, hF⟩ := I.fr
  exact PySem.W.ksp_neg hF I.ok.mod.kin J B.at_ B.fn (run_fn (us := [.ref a]) (vs := [.ref a]) F hr hb .nil hx I (.cons rfl .nil) q)
theorem cmp (F : FnOk X.prog X.w X.K X.mg X.base CX k f fd ps sp) (hr : Room k X.A) (B : Sp1 X.K C (cmpInfo cop).2.1 f) (hb : Binds X.K fd ps []) (hx : Passes CX X E)
    (ho : ∀ a b, compareOp cop a b = richCompare cop a b := by intro _ _; rfl) : OpR X (compareOp cop) (rCmp X.K C sp E) := by
  rintro pins s σ H x y u v Q I rx ry ⟨a, dx, fs, t, rfl, ha, ty, nf, q⟩
  cases rx
  obtain ⟨od, J⟩ := inst I ha
  obtain ⟨m, hF⟩ := I.fr
  rw [ho]
  exact PySem.W.cmp_K hr.units0 hF I.ok.mod.kin J (typed I ry ty) nf B.at_ B.fn (back (run2 (x := .ref a) F hr hb hx I rfl ry q))
/-- o[i] by the own __getitem__ -/
theorem item (F : FnOk X.prog X.w X.K X.mg X.base CX k f fd ps sp) (hr : Room k X.A) (B : Sp1 X.K C "__getitem__" f) (hq : PySem.W.noSeq X.K C = true) (hb : Binds X.K fd ps []) (hx : Passes CX X E) :
    OpR X getItem (fun x y H Q => ∃ a dx fs, x = .ref a ∧ H a = some (.ins C dx fs) ∧ sp [.ref a, y] H Q E) := by
  rintro pins s σ H x y u v Q I rx ry ⟨a, dx, fs, rfl, ha, q⟩
  cases rx
  obtain ⟨od, J⟩ := inst I ha
  obtain ⟨m, hF⟩ := I.fr
  exact PySem.W.getItem_K hF I.ok.mod.kin J hq B.at_ B.fn (run2 (x := .ref a) F hr hb hx I rfl ry q)
/-- x in o by the own __contains__, which gives a bool -/
theorem isin (F : FnOk X.prog X.w X.K X.mg X.base CX k f fd ps sp) (hr : Room k X.A) (B : Sp1 X.K C "__contains__" f) (hb : Binds X.K fd ps []) (hx : Passes CX X E) :
    OpR X (compareOp .In) (fun x y H Q => ∃ a dx fs, y = .ref a ∧ H a = some (.ins C dx fs) ∧ sp [.ref a, x] H (fun v H' => ∃ b, v = .bl b ∧ Q (.bl b) H') E) := by
  rintro pins s σ H x y u v Q I rx ry ⟨a, dx, fs, rfl, ha, q⟩
  cases ry
  obtain ⟨od, J⟩ := inst I ha
  obtain ⟨m, hF⟩ := I.fr
  refine PySem.W.in_K hF I.ok.mod.kin J B.at_ B.fn (wpAny_mono (run2 (x := .ref a) F hr hb hx I rfl rx q) (fun r s' hq => ?_) fun _ _ e => e)
  obtain ⟨z, H', I', rz, b, rfl, q'⟩ := hq
  cases rz
  exact wpAny_truthy_bool ⟨.bl b, H', I', rfl, q'⟩
/-- truth by the own __bool__ -/
theorem truth (F : FnOk X.prog X.w X.K X.mg X.base CX k f fd ps sp) (hr : Room k X.A) (B : Sp1 X.K C "__bool__" f) (hb : Binds X.K fd ps []) (hx : Passes CX X E) :
    TruR X (fun x H Q => ∃ a dx fs, x = .ref a ∧ H a = some (.ins C dx fs) ∧ sp [.ref a] H (fun v H' => ∃ b, v = .bl b ∧ Q b H') E) := by
  rintro pins s σ H x u Q I rx ⟨a, dx, fs, rfl, ha, q⟩
  cases rx
  obtain ⟨od, J⟩ := inst I ha
  obtain ⟨m, hF⟩ := I.fr
  refine PySem.W.truthy_K hF I.ok.mod.kin J B.at_ B.fn (wpAny_mono (run_fn (us := [.ref a]) (vs := [.ref a]) F hr hb .nil hx I (.cons rfl .nil) q) (fun r s' hq => ?_) fun _ _ e => e)
  obtain ⟨z, H', I', rz, b, rfl, q'⟩ := hq
  cases rz
  exact ⟨H', I', q'⟩
end
end Own
/-! ## int op own: the reflected operator; != by the inherited rule over the own ==; len; a call of an instance -/
namespace Own
open PySem PySem.Spec PyProof.Rows
section
variable {prog : Program} {w : World} {A : Around} {E : Value → Shared → Prop} {s : Shared} {K : PySem.W.Frag} {x C dx f : Addr} {od : Option Obj}
theorem decl_add {i : Int} {t : Tok} {Q : Shared → Prop} (h : s.heap.get? x = some (PySem.W.instObj C dx)) (hq : Q s) :
    wpAny (model prog w) A (Builtin.«int.__add__» ⟨[.int i t, .ref x], []⟩) (fun fin s' => ∃ v, fin = .done (.ret v) ∧ v = .notImplemented ∧ Q s') E s := by
  obtain ⟨hp, g, d, tk, os⟩ := s
  wp_walk using wpAny_load h
  exact ⟨_, rfl, rfl, hq⟩
theorem decl_sub {i : Int} {t : Tok} {Q : Shared → Prop} (h : s.heap.get? x = some (PySem.W.instObj C dx)) (hq : Q s) :
    wpAny (model prog w) A (Builtin.«int.__sub__» ⟨[.int i t, .ref x], []⟩) (fun fin s' => ∃ v, fin = .done (.ret v) ∧ v = .notImplemented ∧ Q s') E s := by
  obtain ⟨hp, g, d, tk, os⟩ := s
  wp_walk using wpAny_load h
  exact ⟨_, rfl, rfl, hq⟩
theorem decl_mul {i : Int} {t : Tok} {Q : Shared → Prop} (h : s.heap.get? x = some (PySem.W.instObj C dx)) (hq : Q s) :
    wpAny (model prog w) A (Builtin.«int.__mul__» ⟨[.int i t, .ref x], []⟩) (fun fin s' => ∃ v, fin = .done (.ret v) ∧ v = .notImplemented ∧ Q s') E s := by
  obtain ⟨hp, g, d, tk, os⟩ := s
  wp_walk using wpAny_load h
  exact ⟨_, rfl, rfl, hq⟩
end
end Own
namespace Own
open PySem PySem.Spec PyProof.Rows
section
variable {prog : Program} {w : World} {A : Around} {E : Value → Shared → Prop} {s : Shared} {K : PySem.W.Frag} {x C dx f f0 : Addr} {od : Option Obj} {op : Operator} {id : String}
/-- an int declines an operator beside an instance, then the instance's reflected one is asked -/
theorem binR {i : Int} {t : Tok} {Q : Value → Shared → Prop} (KX : K.In s.heap) (I : PySem.W.InstAt s.heap x (PySem.W.instObj C dx) C od) (hc : PySem.W.selfFirst K C = true)
    (h0 : PySem.W.findIn K (.ref C) (PySem.dunder op.info.2) = some (some (.ref f0))) (h1 : PySem.W.findIn K (.ref C) (dunderR op.info.2) = some (some (.ref f))) (hf : PySem.W.isFn K (.ref f) = true)
    (hsub : PySem.W.subIn K (.ref C) (.type "int") = some false) (hfill : fillsNumberSlot (.type "int") op.info.2 = pure true) (slot : Slot "int" (PySem.dunder op.info.2) id)
    (decl : wpAny (model prog w) A (call (.builtin id) [.int i t, .ref x]) (fun v s' => v = .notImplemented ∧ s'.heap = s.heap ∧ s'.gens = s.gens ∧ s'.drawn = s.drawn ∧ s'.os = s.os ∧ s'.toks = s.toks) E s)
    (h : wpAny (model prog w) A (call (.ref f) [.ref x, .int i t]) (PySem.W.CmpBack Q) E s) : wpAny (model prog w) A (binaryOp op (.int i t) (.ref x)) Q E s := by
  obtain ⟨cd, rest, hcd, hm⟩ := PySem.W.ksp_first hc
  rcases hi : op.info with ⟨sym, nm⟩
  rw [hi] at h0 h1 hfill slot
  dsimp only at h0 h1 hfill slot
  have two := PySem.W.ksp_try KX I h1 hf h
  obtain ⟨hh, g, d, tt, os⟩ := s
  have L1 : PySem.W.Looks (model prog w) hh (typeOf (.ref x)) (.ref C) := I.type
  have L3 : PySem.W.Looks (model prog w) hh (fillsNumberSlot (.ref C) nm) true := PySem.W.fills_K KX hcd hm h0
  have L5 : PySem.W.Looks (model prog w) hh (isSubtype (.ref C) (.type "int")) false := PySem.W.looks_subIn KX hsub
  have hne : (Value.type "int" == Value.ref C) = false := Bool.eq_false_iff.mpr fun q => by cases beq_iff_eq.mp q
  have hpy : numberSlotInPython (.type "int") nm = pure false := rfl
  have one : wpAny (model prog w) A (tryMethod (.int i t) (PySem.dunder nm) (.ref x)) (fun r s' => r = none ∧ s'.heap = hh ∧ s'.gens = g ∧ s'.drawn = d ∧ s'.os = os ∧ s'.toks = tt) E ⟨hh, g, d, tt, os⟩ :=
    wpAny_tryMethod_declines (T := "int") (typeIs_int _ i t) slot (wpAny_mono decl (fun v s' q => ⟨q.1, rfl, q.2⟩) fun _ _ e => e)
  simp only [binaryOp, hi]
  refine wpAny_holding (wpAny_bind ?_)
  unfold binaryOp1
  refine wpAny_bind (wpAny_typeOf (typeIs_int _ i t) (wpAny_bind (L1.at (wpAny_bind (wpAny_of_eq hfill ?_)))))
  simp only [hne, Bool.false_eq_true, if_false]
  refine wpAny_bind (L3.at ?_)
  simp only [Bool.and_self, if_true]
  refine wpAny_bind (L5.at ?_)
  simp only [Bool.false_eq_true, if_false, pure_bind, Bool.not_false, Bool.and_self, if_true, hpy]
  refine wpAny_bind (wpAny_mono one (fun r s' q => ?_) fun _ _ e => e)
  obtain ⟨h1, g1, d1, t1, o1⟩ := s'
  obtain ⟨rfl, q1, q2, q3, q4, q5⟩ := q
  dsimp only at q1 q2 q3 q4 q5
  subst q1 q2 q3 q4 q5
  dsimp only
  refine wpAny_bind (wpAny_mono two (fun r s' q => ?_) fun _ _ e => e)
  obtain ⟨v, rfl, q⟩ := q
  exact wpAny_bind (wpAny_rule (wpAny_pure (wpAny_pure q)))
end
end Own
namespace Own
open PySem PySem.Spec PyProof.Rows
theorem slot_ne : Slot "object" "__ne__" "object.__ne__" :=
  .of (T := "object") (name := "__ne__") (owner := "object") (n := "__ne__") (by rw [typeLookup_type, builtinLookup_eq_fast]; kernel_rfl) (by decide +kernel) (by decide +kernel) (by decide +kernel)
    (.inl (by decide +kernel)) (by rw [isSubtype_type]; kernel_rfl)
section
variable {prog : Program} {w : World} {A : Around} {E : Value → Shared → Prop} {s : Shared} {K : PySem.W.Frag} {x C dx f : Addr} {od : Option Obj} {b tb : Value}
theorem check_ne {M : Model} {Q : Unit → Shared → Prop} (I : PySem.W.InstAt s.heap x (PySem.W.instObj C dx) C od) (KX : K.In s.heap) (ho : PySem.W.subIn K (.ref C) (.type "object") = some true) (h : Q () s) :
    wpAny M A (checkBuiltinCall "object.__ne__" ⟨[.ref x, b], []⟩) Q E s := by
  have ha : argsOk "object.__ne__" ⟨[.ref x, b], []⟩ := by unfold argsOk; kernel_rfl
  have L : PySem.W.Looks M s.heap (isSubtype (.ref C) (.type "object")) true := PySem.W.looks_subIn KX ho
  have at_ := I.at_
  obtain ⟨hp, g, d, t, os⟩ := s
  simp only [checkBuiltinCall, F.cmpKind_ne, F.cmpSplit_ne]
  refine wpAny_bind ?_
  unfold isInstance
  repeat (first | (with_reducible refine wpAny_loadPart_at at_ ?_) | (with_reducible refine L.at ?_) | wp_step)
  exact h
/-- != of an instance whose class has an own == alone -/
theorem ne_K {Q : Value → Shared → Prop} (hu : A.units + 1 < cLine) (KX : K.In s.heap) (I : PySem.W.InstAt s.heap x (PySem.W.instObj C dx) C od) (hb : PySem.W.Looks (model prog w) s.heap (typeOf b) tb) (hn : PySem.W.notFirst K C tb = true)
    (h0 : PySem.W.findIn K (.ref C) "__ne__" = some (some (.builtin "object.__ne__"))) (h1 : PySem.W.findIn K (.ref C) "__eq__" = some (some (.ref f))) (hf : PySem.W.isFn K (.ref f) = true) (ho : PySem.W.subIn K (.ref C) (.type "object") = some true)
    (h : wpAny (model prog w) A.in1 (call (.ref f) [.ref x, b]) (fun v s' => ∃ c, v = .bool c ∧ Q (.bool (!c)) s') E s) : wpAny (model prog w) A (richCompare .NotEq (.ref x) b) Q E s := by
  have eqc : wpAny (model prog w) A.in1 (callSpecialIfBound? (.ref x) (Str.ofString "__eq__") [b]) (fun r s' => ∃ c, r = some (.bool c) ∧ Q (.bool (!c)) s') E s :=
    PySem.W.ifBound_K KX I h1 hf (wpAny_mono h (fun v s' ⟨c, e, q⟩ => ⟨c, by rw [e], q⟩) fun _ _ e => e)
  have body : wpAny (model prog w) A.in1 (Builtin.«object.__ne__» ⟨[.ref x, b], []⟩) (fun fin s' => ∃ v, fin = .done (.ret v) ∧ ∃ c, v = .bool (!c) ∧ Q (.bool (!c)) s') E s := by
    obtain ⟨hp, g, d, t, os⟩ := s
    unfold Builtin.«object.__ne__»
    repeat (first
      | with_reducible refine wpAny_cRoomFor hu ?_
      | (refine wpAny_bind (m := callSpecialIfBound? (.ref x) (Str.ofString "__eq__") [b]) (wpAny_mono eqc (fun r s' hr => ?_) fun _ _ e => e))
      | wp_step)
    obtain ⟨c, rfl, q⟩ := hr
    repeat (first
      | exact ⟨_, rfl, c, rfl, q⟩
      | exact wpAny_pure ⟨_, rfl, c, rfl, q⟩
      | (refine wpAny_bind (m := truthy (.bool _)) (wpAny_truthy_bool ?_))
      | wp_step)
  have one : wpAny (model prog w) A (tryCompare (.ref x) (Str.ofString "__ne__") b) (fun r s' => ∃ c, r = some (.bool (!c)) ∧ Q (.bool (!c)) s') E s := by
    unfold tryCompare
    refine wpAny_bind ?_
    simp only [callSpecialIfBound?, bindSpecialIfBound?]
    refine wpAny_holding (wpAny_bind (wpAny_bind (wpAny_bind (I.type.here ((PySem.W.looks_findIn KX h0).here ?_)))))
    have last : wpAny (model prog w) A (call (.builtin "object.__ne__") ([.ref x] ++ [b]) >>= fun v => pure (some v)) (fun a s' => wpAny (model prog w) A (match a with | some .notImplemented | none => pure none | some v => pure (some v)) (fun r s' => ∃ c, r = some (.bool (!c)) ∧ Q (.bool (!c)) s') E s') E s := by
      refine wpAny_bind (wpAny_call (codeAny_call_builtin slot_ne.plain F.cmpEntry_ne (check_ne I KX ho (wpAny_mono body (fun fin s' hv => ?_) fun _ _ e => e))))
      obtain ⟨v, rfl, c, rfl, q⟩ := hv
      exact wpAny_pure (wpAny_pure ⟨c, rfl, q⟩)
    refine wpAny_bind (wpAny_askSetting (wpAny_ite ?_))
    simp only [slot_ne.bind]
    split
    · exact wpAny_bind (wpAny_pure (wpAny_pure last))
    · exact wpAny_tryCatch (wpAny_bind (wpAny_pure (wpAny_pure last)))
  unfold richCompare
  simp only [PySem.oneThing_ref]
  refine wpAny_holding (wpAny_bind (wpAny_cRoomFor (Nat.lt_of_succ_lt hu) ?_))
  rw [cmpInfo_NotEq]
  dsimp only
  refine wpAny_bind (I.type.here (wpAny_bind (hb.here ?_)))
  have tail : wpAny (model prog w) A (tryCompare (.ref x) (Str.ofString "__ne__") b) (fun r s' => ∃ v, r = some v ∧ Q v s') E s :=
    wpAny_mono one (fun r s' ⟨c, e, q⟩ => ⟨_, e, q⟩) fun _ _ e => e
  split
  · rename_i q
    have e : PySem.W.subIn K tb (.ref C) = some false := by
      rcases Bool.or_eq_true_iff.mp hn with e | e
      · rw [beq_iff_eq.mp e] at q; simp at q
      · exact beq_iff_eq.mp e
    refine wpAny_bind ((PySem.W.looks_subIn KX e).here ?_)
    simp only [Bool.false_eq_true, if_false]
    refine wpAny_bind (wpAny_mono tail (fun r s' z => ?_) fun _ _ e => e)
    obtain ⟨v, rfl, hq⟩ := z
    exact wpAny_pure hq
  · refine wpAny_bind (wpAny_pure ?_)
    simp only [Bool.false_eq_true, if_false]
    refine wpAny_bind (wpAny_mono tail (fun r s' z => ?_) fun _ _ e => e)
    obtain ⟨v, rfl, hq⟩ := z
    exact wpAny_pure hq
end
end Own
namespace Own
open PySem PySem.Spec PyProof.Rows L2
section
variable {X : Cx} {CX : CXT} {k : Nat} {f f0 C : Addr} {fd : FuncData} {ps : List Str} {sp : Sp} {E : XK} {op : Operator}
/-- a call one step further in -/
theorem runIn {pins : List (Addr × Obj)} {σ : L2.St} {H : Hp} {s : Shared} {Q : VK} {us : List Value} {vs : List V} (F : FnOk X.prog X.w X.K X.mg X.base CX k f fd ps sp) (hr : Room (k + 1) X.A) (hb : Binds X.K fd ps []) (hx : Passes CX X E)
    (I : Inv X pins σ H s) (r : Vals vs us) (h : sp vs H Q E) : wpAny (model X.prog X.w) X.A.in1 (PySem.call (.ref f) us) (EP X pins σ Q) X.xe s := by
  have hl : us.length = ps.length := by rw [← r.length]; exact F.len _ _ _ _ h
  have hb' := hb s us I.kIn (by simpa using hl)
  rw [List.append_nil] at hb'
  refine wpAny_call (codeAny_mono (F.run X.A.in1 X.stack s H ⟨us, []⟩ us vs Q E hr.in1 I.env0.in1 hb' r h) fun r s' hq => ?_)
  cases r with
  | error e => exact hx pins σ H s e s' I hq
  | ok fl =>
    cases fl with
    | ret u => exact I.after hq
    | next => exact False.elim hq
    | brk => exact False.elim hq
    | cont => exact False.elim hq
structure BinR (K : PySem.W.Frag) (C f : Addr) (op : Operator) : Prop where
  first : PySem.W.selfFirst K C = true
  l : ∃ f0 : Addr, PySem.W.findIn K (.ref C) (PySem.dunder op.info.2) = some (some (.ref f0))
  at_ : PySem.W.findIn K (.ref C) (dunderR op.info.2) = some (some (.ref f))
  fn : PySem.W.isFn K (.ref f) = true
  sub : PySem.W.subIn K (.ref C) (.type "int") = some false
def rRight (C : Addr) (sp : Sp) (E : XK) : R2 := fun x y H Q => ∃ i a dx fs, x = .int i ∧ y = .ref a ∧ H a = some (.ins C dx fs) ∧ sp [.ref a, .int i] H Q E
theorem opR_of {id : String} {B : Builtin} (hfill : fillsNumberSlot (.type "int") op.info.2 = pure true) (slot : Slot "int" (PySem.dunder op.info.2) id) (entry : entryFor table id = some B) (args : ∀ a b : Value, argsOk id ⟨[a, b], []⟩)
    (decl : ∀ {prog : Program} {w : World} {A : Around} {E : Value → Shared → Prop} {s : Shared} {x C dx : Addr} {i : Int} {t : Tok} {Q : Shared → Prop}, s.heap.get? x = some (PySem.W.instObj C dx) → Q s →
      wpAny (model prog w) A (B ⟨[.int i t, .ref x], []⟩) (fun fin s' => ∃ v, fin = .done (.ret v) ∧ v = .notImplemented ∧ Q s') E s)
    (F : FnOk X.prog X.w X.K X.mg X.base CX k f fd ps sp) (hr : Room k X.A) (Z : BinR X.K C f op) (hb : Binds X.K fd ps []) (hx : Passes CX X E) : OpR X (binaryOp op) (rRight C sp E) := by
  rintro pins s σ H x y u v Q I rx ry ⟨i, a, dx, fs, rfl, rfl, ha, q⟩
  obtain ⟨t, rfl⟩ := (show ∃ t, u = Value.int i t from rx)
  cases ry
  obtain ⟨od, J⟩ := inst I ha
  obtain ⟨z1, ⟨f0, z2⟩, z3, z4, z5⟩ := Z
  exact binR I.kIn J z1 z2 z3 z4 z5 hfill slot (wpAny_call_entry slot (typeIs_int s i t) entry (wpAny_mono (decl (Q := fun s' => s'.heap = s.heap ∧ s'.gens = s.gens ∧ s'.drawn = s.drawn ∧ s'.os = s.os ∧ s'.toks = s.toks) J.at_ ⟨rfl, rfl, rfl, rfl, rfl⟩) (fun fin s' ⟨v, e, q⟩ => ⟨v, e, q⟩) fun _ _ e => e) (args _ _))
    (back (run2 (x := .ref a) (y := .int i) F hr hb hx I rfl ⟨t, rfl⟩ q))
theorem opRadd (F : FnOk X.prog X.w X.K X.mg X.base CX k f fd ps sp) (hr : Room k X.A) (Z : BinR X.K C f .Add) (hb : Binds X.K fd ps []) (hx : Passes CX X E) : OpR X (binaryOp .Add) (rRight C sp E) :=
  opR_of PySem.F.fills_int_add PySem.F.slot_int_add PySem.F.entry_int_add PySem.F.args_int_add_2 decl_add F hr Z hb hx
theorem opRsub (F : FnOk X.prog X.w X.K X.mg X.base CX k f fd ps sp) (hr : Room k X.A) (Z : BinR X.K C f .Sub) (hb : Binds X.K fd ps []) (hx : Passes CX X E) : OpR X (binaryOp .Sub) (rRight C sp E) :=
  opR_of PySem.F.fills_int_sub PySem.F.slot_int_sub PySem.F.entry_int_sub PySem.F.args_int_sub_2 decl_sub F hr Z hb hx
theorem opRmul (F : FnOk X.prog X.w X.K X.mg X.base CX k f fd ps sp) (hr : Room k X.A) (Z : BinR X.K C f .Mult) (hb : Binds X.K fd ps []) (hx : Passes CX X E) : OpR X (binaryOp .Mult) (rRight C sp E) :=
  opR_of PySem.F.fills_int_mul PySem.F.slot_int_mul PySem.F.entry_int_mul PySem.F.args_int_mul_2 decl_mul F hr Z hb hx
structure Ne (K : PySem.W.Frag) (C f : Addr) : Prop where
  ne : PySem.W.findIn K (.ref C) "__ne__" = some (some (.builtin "object.__ne__"))
  eq : PySem.W.findIn K (.ref C) "__eq__" = some (some (.ref f))
  fn : PySem.W.isFn K (.ref f) = true
  ob : PySem.W.subIn K (.ref C) (.type "object") = some true
def rNeOwn (K : PySem.W.Frag) (C : Addr) (sp : Sp) (E : XK) : R2 := fun x y H Q => ∃ a dx fs t, x = .ref a ∧ H a = some (.ins C dx fs) ∧ TyX K H y t ∧ PySem.W.notFirst K C t = true ∧ sp [.ref a, y] H (fun v H' => ∃ b, v = .bl b ∧ Q (.bl (!b)) H') E
theorem ne (F : FnOk X.prog X.w X.K X.mg X.base CX k f fd ps sp) (hr : Room (k + 1) X.A) (Z : Ne X.K C f) (hb : Binds X.K fd ps []) (hx : Passes CX X E) : OpR X (compareOp .NotEq) (rNeOwn X.K C sp E) := by
  rintro pins s σ H x y u v Q I rx ry ⟨a, dx, fs, t, rfl, ha, ty, nf, q⟩
  cases rx
  obtain ⟨od, J⟩ := inst I ha
  have hu : X.A.units + 1 < cLine := hu_of hr
  exact ne_K hu I.kIn J (typed I ry ty) nf Z.ne Z.eq Z.fn Z.ob (wpAny_mono (runIn (us := [.ref a, v]) (vs := [.ref a, y]) F hr hb hx I (.cons rfl (.cons ry .nil)) q) (fun r s' hq => by
    obtain ⟨z, H', I', rz, b, rfl, q'⟩ := hq
    cases rz
    exact ⟨b, rfl, .bl (!b), H', I', rfl, q'⟩) fun _ _ e => e)
/-- len(o) by the own __len__ -/
theorem len (F : FnOk X.prog X.w X.K X.mg X.base CX k f fd ps sp) (hr : Room (k + 1) X.A) (B : Sp1 X.K C "__len__" f) (hb : Binds X.K fd ps []) (hx : Passes CX X E) :
    CallR X (.builtin "len") (fun xs H Q => ∃ a dx fs, xs = [.ref a] ∧ H a = some (.ins C dx fs) ∧ sp [.ref a] H (fun v H' => ∃ n, v = .int n ∧ 0 ≤ n ∧ n < 2 ^ 63 ∧ Q (.int n) H') E) := by
  rintro pins s σ H xs us Q I rs ⟨a, dx, fs, rfl, ha, q⟩
  cases rs with
  | cons r rest =>
    cases rest
    cases r
    obtain ⟨od, J⟩ := inst I ha
    obtain ⟨m, hF⟩ := I.fr
    refine PySem.W.len_K hF I.ok.mod.kin J B.at_ B.fn (wpAny_mono (runIn (us := [.ref a]) (vs := [.ref a]) F hr hb hx I (.cons rfl .nil) q) (fun r s' hq => ?_) fun _ _ e => e)
    obtain ⟨z, H', I', rz, n, rfl, h0, h1, q'⟩ := hq
    obtain ⟨t, rfl⟩ := (show ∃ t, r = Value.int n t from rz)
    exact ⟨⟨h0, h1⟩, .int n, H', I'.tok _, ⟨_, rfl⟩, q'⟩
end
theorem fnR_of {P : Program} {w : World} {K : PySem.W.Frag} {mg : Str → Option Value} {base : Heap} {CX : CXT} {k : Nat} {f : Addr} {fd : FuncData} {ps : List Str} {sp : Sp} (F : FnOk P w K mg base CX k f fd ps sp) (hb : Binds K fd ps []) : FnR P w K mg base CX k f sp := by
  intro A outer s H us vs Q E hr e0 r h
  have KX : K.In s.heap := e0.mod.kin.keeps fun b o e => (e0.bs b o e).1
  have hl : us.length = ps.length := by rw [← r.length]; exact F.len _ _ _ _ h
  have hb' := hb s us KX (by simpa using hl)
  rw [List.append_nil] at hb'
  exact F.run A outer s H ⟨us, []⟩ us vs Q E hr e0 hb' r h
def rIop (C : Addr) (sp : Sp) (E : XK) : R2 := fun x y H Q => ∃ a dx fs, x = .ref a ∧ H a = some (.ins C dx fs) ∧ sp [.ref a, y] H Q E
theorem pip {X : Cx} {C : Addr} {sp : Sp} {E : XK} {op : Operator} (h : OpR X (inplaceOp op) (fun x y H Q => ∃ a dx fs, x = .ref a ∧ H a = some (.ins C dx fs) ∧ sp [.ref a, y] H Q E)) : PIp X op (rIop C sp E) :=
  fun pins s σ H x y v u Q I rx ry q => h pins s σ H x y v u Q I rx ry q
theorem iop2 {H : Hp} {Q : VK} {C a dx : Addr} {sp : Sp} {E : XK} {fs : List (Str × V)} {y : V} (ha : H a = some (.ins C dx fs)) (h : sp [.ref a, y] H Q E) : rIop C sp E (.ref a) y H Q := ⟨a, dx, fs, rfl, ha, h⟩
/-- f(e, ..), f an expression that gives an instance of C: the reading speaks of the heap alone -/
def tCallI (C : Addr) (sp : Sp) (E : XK) (tf : TE) (t : TA) : TE := fun σ H Q => tf σ H fun y H1 => ∃ a, y = V.ref a ∧ t σ H1 fun vs H2 => (∃ dx fs, H2 a = some (.ins C dx fs)) ∧ sp (V.ref a :: vs) H2 Q E
theorem pe_callI {X : Cx} {CX : CXT} {k : Nat} {g C : Addr} {sp : Sp} {E : XK} {fe e : Expr} {es : List Expr} {tf : TE} {t : TA} {pos : Pos} (hf : PE X fe tf) (c : StX.CallO X.K C g) (F : FnR X.prog X.w X.K X.mg X.base CX k g sp) (hr : Room k X.A) (hx : Passes CX X E) (ha : PA X (e :: es) t)
    (ht : eval (.Call fe (e :: es) [] pos) X.env = (do callWith pos (← eval fe X.env) [] (backTo pos (starEach (e :: es) X.env)) (backToKw pos (keywordEach [] X.env))) := by rfl)
    (he : starEach (e :: es) X.env = (false, eval e X.env) :: starEach es X.env := by rfl) (hpl : (backTo pos (starEach es X.env)).any (·.1) = false := by rfl) : PE X (.Call fe (e :: es) [] pos) (tCallI C sp E tf t) := by
  refine ⟨fun pins s σ H Q I h => Call_ (thn (hf.run pins s σ H _ I h) fun u s1 z => ?_) ht⟩
  obtain ⟨y, H1, I1, ry, a, rfl, q⟩ := z
  cases ry
  refine StX.callO_with (thn (ha.run pos pins s1 σ H1 _ I1 q) fun us s2 z2 => ?_) he hpl
  obtain ⟨vs, H2, I2, r, hi, q2⟩ := z2
  obtain ⟨od, J⟩ : ∃ od, PySem.W.InstAt s2.heap a (PySem.W.instObj C hi.choose) C od := inst I2 hi.choose_spec.choose_spec
  exact ⟨⟨C, _, od, J, rfl⟩, StX.run_callO c F hr hx I2 (.inr hi) r q2⟩
section
variable {σ : L2.St} {H : Hp} {Q : VK} {C : Addr} {sp : Sp} {E : XK}
theorem opS2 {a b dx dy : Addr} {fs gs : List (Str × V)} (ha : H a = some (.ins C dx fs)) (hb : H b = some (.ins C dy gs)) (h : sp [.ref a, .ref b] H Q E) : rSame C sp E (.ref a) (.ref b) H Q := ⟨a, b, dx, dy, fs, gs, rfl, rfl, ha, hb, h⟩
theorem opT2 {a dx : Addr} {fs : List (Str × V)} {T : String} {y : V} (ha : H a = some (.ins C dx fs)) (ty : ∀ u, RelV y u → typeOf u = pure (.type T)) (h : sp [.ref a, y] H Q E) : rLeft C T sp E (.ref a) y H Q := ⟨a, dx, fs, rfl, ha, ty, h⟩
theorem opR2 {a dx : Addr} {fs : List (Str × V)} {i : Int} (ha : H a = some (.ins C dx fs)) (h : sp [.ref a, .int i] H Q E) : rRight C sp E (.int i) (.ref a) H Q := ⟨i, a, dx, fs, rfl, rfl, ha, h⟩
theorem neg2 {a dx : Addr} {fs : List (Str × V)} (ha : H a = some (.ins C dx fs)) (h : sp [.ref a] H Q E) : rOne C sp E (.ref a) H Q := ⟨a, dx, fs, rfl, ha, h⟩
theorem cmp2 {K : PySem.W.Frag} {a dx : Addr} {fs : List (Str × V)} {y : V} {t : Value} (ha : H a = some (.ins C dx fs)) (ty : TyX K H y t) (nf : PySem.W.notFirst K C t = true) (h : sp [.ref a, y] H Q E) : rCmp K C sp E (.ref a) y H Q := ⟨a, dx, fs, t, rfl, ha, ty, nf, h⟩
theorem ne2 {K : PySem.W.Frag} {a dx : Addr} {fs : List (Str × V)} {y : V} {t : Value} (ha : H a = some (.ins C dx fs)) (ty : TyX K H y t) (nf : PySem.W.notFirst K C t = true) (h : sp [.ref a, y] H (fun v H' => ∃ b, v = .bl b ∧ Q (.bl (!b)) H') E) : rNeOwn K C sp E (.ref a) y H Q := ⟨a, dx, fs, t, rfl, ha, ty, nf, h⟩
theorem callI {tf : TE} {t : TA} (h : tf σ H fun y H1 => ∃ a, y = V.ref a ∧ t σ H1 fun vs H2 => (∃ dx fs, H2 a = some (.ins C dx fs)) ∧ sp (V.ref a :: vs) H2 Q E) : tCallI C sp E tf t σ H Q := h
theorem ty_int {i : Int} : ∀ u, RelV (.int i) u → typeOf u = pure (.type "int") := by
  rintro u ⟨t, rfl⟩
  rfl
end
end Own
/-! ## lists made of lists, and what == says of ints -/
namespace Rd
open PySem PySem.Spec PyProof.Rows L2
theorem lc {wi : TI} {g : TG} {tt : TT} {te : TE} {vs : List Nat} {σ : L2.St} {H : Hp} {Q : VK} (h : wi σ H fun J H1 => ∀ D, H1 D = none → ∃ W : Nat → Nat → Hp → Prop, (∃ m, W 0 m (upd H1 D (.lst []))) ∧ ∀ i m H, W i m H →
    (J.stop i H ∧ Q (.ref D) H) ∨ (J.go i H ∧ ∃ Nx : Hp → Prop, (∀ H', Nx H' → ∃ m', m' < m ∧ W (i + 1) m' H') ∧ ∀ x H', J.yld i H x H' → g x (wipe σ vs) H' fun σ2 H2 => wipe σ2 vs = wipe σ vs ∧ tt σ2 H2 fun b H3 =>
      if b = true then te σ2 H3 fun y H4 => ∃ acc, H4 D = some (.lst acc) ∧ acc.length < sizeLine ∧ Nx (upd H4 D (.lst (acc ++ [y]))) else Nx H3)) : tLc wi g tt te vs σ H Q := h
theorem il {K : PySem.W.Frag} {tl : TE} {σ : L2.St} {H : Hp} {R : It → Hp → Prop} (h : tl σ H fun x H1 => ∃ a, x = .ref a ∧ (∃ xs, SqL K H1 a xs) ∧ R (Itl K a) H1) : iList K tl σ H R := h
theorem same_upd {H H' : Hp} {D : Addr} {o : HO} (hD : H D = none) (S : Same H H') : Same H (upd H' D o) := fun b u e => by
  rw [upd_ne (ne_of_none e hD)]
  exact S b u e
/-- [e for x in l]: the items' images, where e makes the image and leaves what was tracked -/
theorem lcMap {α : Type} {items : List α} {inj res : α → V} {K : PySem.W.Frag} {a : Addr} {i : Nat} {te : TE} {vs : List Nat} {σ : L2.St} {H : Hp} {Q : VK} (hs : SqL K H a (items.map inj)) (hn : items.length ≤ 1000)
    (hw : ∀ x, wipe ((wipe σ vs).set i (some x)) vs = wipe σ vs)
    (elem : ∀ x ∈ items, ∀ H', Same H H' → ∀ R : VK, (∀ H'', Same H' H'' → R (res x) H'') → te ((wipe σ vs).set i (some (inj x))) H' R)
    (k : ∀ (p : Addr) (H' : Hp), H p = none → Same H H' → H' p = some (.lst (items.map res)) → Q (.ref p) H') :
    (∃ xs, SqL K H a xs) ∧ ∀ D, H D = none → ∃ W : Nat → Nat → Hp → Prop, (∃ m, W 0 m (upd H D (.lst []))) ∧ ∀ t m H, W t m H →
      ((Itl K a).stop t H ∧ Q (.ref D) H) ∨ ((Itl K a).go t H ∧ ∃ Nx : Hp → Prop, (∀ H', Nx H' → ∃ m', m' < m ∧ W (t + 1) m' H') ∧ ∀ x H', (Itl K a).yld t H x H' → (gName i) x (wipe σ vs) H' fun σ2 H2 => wipe σ2 vs = wipe σ vs ∧ tYes σ2 H2 fun b H3 =>
        if b = true then te σ2 H3 fun y H4 => ∃ acc, H4 D = some (.lst acc) ∧ acc.length < sizeLine ∧ Nx (upd H4 D (.lst (acc ++ [y]))) else Nx H3) := by
  refine ⟨⟨_, hs⟩, fun D hD => lc_list (xs := items.map inj) (fun t H' => Same H H' ∧ H' D = some (.lst ((items.take t).map res))) ⟨same_upd hD (Same.refl _), upd_same⟩ (fun t H' _ p => p.1.seq hs) (fun t x H' hx p => ?_) (fun H' p => ?_)⟩
  · obtain ⟨S, hl⟩ := p
    rw [List.getElem?_map] at hx
    cases e : items[t]? with
    | none => rw [e] at hx; cases hx
    | some y =>
      rw [e] at hx
      cases hx
      have hy : y ∈ items := List.mem_of_getElem? e
      have ht : t < items.length := (List.getElem?_eq_some_iff.mp e).1
      refine ⟨hw _, iteT (B := Same H H' ∧ H' D = some (.lst ((items.take (t + 1)).map res))) rfl (elem y hy H' S _ fun H'' S' => ⟨_, S' _ _ hl, ?_, ?_, ?_⟩)⟩
      · rw [List.length_map, List.length_take]
        exact small1000 (by omega)
      · exact same_upd hD (S.trans S')
      · rw [upd_same, List.take_add_one, e]
        simp
  · obtain ⟨S, hl⟩ := p
    rw [List.length_map, List.take_length] at hl
    exact k D H' hD S hl
theorem lcMapI {ns : List Int} {g : Int → Int} {K : PySem.W.Frag} {a : Addr} {i : Nat} {te : TE} {vs : List Nat} {σ : L2.St} {H : Hp} {Q : VK} (hs : SqL K H a (ns.map V.int)) (hn : ns.length ≤ 1000)
    (hw : ∀ x, wipe ((wipe σ vs).set i (some x)) vs = wipe σ vs)
    (elem : ∀ x ∈ ns, ∀ H', Same H H' → ∀ R : VK, (∀ H'', Same H' H'' → R (.int (g x)) H'') → te ((wipe σ vs).set i (some (.int x))) H' R)
    (k : ∀ (p : Addr) (H' : Hp), H p = none → Same H H' → H' p = some (.lst ((ns.map g).map V.int)) → Q (.ref p) H') :
    (∃ xs, SqL K H a xs) ∧ ∀ D, H D = none → ∃ W : Nat → Nat → Hp → Prop, (∃ m, W 0 m (upd H D (.lst []))) ∧ ∀ t m H, W t m H →
      ((Itl K a).stop t H ∧ Q (.ref D) H) ∨ ((Itl K a).go t H ∧ ∃ Nx : Hp → Prop, (∀ H', Nx H' → ∃ m', m' < m ∧ W (t + 1) m' H') ∧ ∀ x H', (Itl K a).yld t H x H' → (gName i) x (wipe σ vs) H' fun σ2 H2 => wipe σ2 vs = wipe σ vs ∧ tYes σ2 H2 fun b H3 =>
        if b = true then te σ2 H3 fun y H4 => ∃ acc, H4 D = some (.lst acc) ∧ acc.length < sizeLine ∧ Nx (upd H4 D (.lst (acc ++ [y]))) else Nx H3) :=
  lcMap (inj := V.int) (res := fun x => .int (g x)) hs hn hw elem fun p H' hp S h => k p H' hp S (by rw [List.map_map]; exact h)
theorem lcVarI {ns : List Int} {g : Int → Int} {K : PySem.W.Frag} {a : Addr} {i j : Nat} {te : TE} {vs : List Nat} {σ : L2.St} {H : Hp} {Q : VK} (ej : σ[j]? = some (some (.ref a))) (hs : SqL K H a (ns.map V.int)) (hn : ns.length ≤ 1000)
    (hw : ∀ x, wipe ((wipe σ vs).set i (some x)) vs = wipe σ vs)
    (elem : ∀ x ∈ ns, ∀ H', Same H H' → ∀ R : VK, (∀ H'', Same H' H'' → R (.int (g x)) H'') → te ((wipe σ vs).set i (some (.int x))) H' R)
    (k : ∀ (p : Addr) (H' : Hp), H p = none → Same H H' → H' p = some (.lst ((ns.map g).map V.int)) → Q (.ref p) H') : tLc (iList K (tVar j)) (gName i) tYes te vs σ H Q :=
  lc (il ⟨_, ej, _, rfl, lcMapI hs hn hw elem k⟩)
/-- [e for x in l if t] where t never holds: a new empty list -/
theorem lcNone {items : List V} {K : PySem.W.Frag} {a : Addr} {i j : Nat} {te : TE} {tt : TT} {vs : List Nat} {σ : L2.St} {H : Hp} {Q : VK} (ej : σ[j]? = some (some (.ref a))) (hs : SqL K H a items)
    (hw : ∀ x, wipe ((wipe σ vs).set i (some x)) vs = wipe σ vs)
    (test : ∀ x ∈ items, ∀ H', Same H H' → ∀ R : Bool → Hp → Prop, (∀ H'', Same H' H'' → R false H'') → tt ((wipe σ vs).set i (some x)) H' R)
    (k : ∀ (p : Addr) (H' : Hp), H p = none → Same H H' → H' p = some (.lst []) → Q (.ref p) H') : tLc (iList K (tVar j)) (gName i) tt te vs σ H Q := by
  refine lc (il ⟨_, ej, _, rfl, ⟨_, hs⟩, fun D hD => lc_list (xs := items) (fun _ H' => Same H H' ∧ H' D = some (.lst [])) ⟨same_upd hD (Same.refl _), upd_same⟩ (fun t H' _ p => p.1.seq hs) (fun t x H' hx p => ?_) (fun H' p => k D H' hD p.1 p.2)⟩)
  obtain ⟨S, hl⟩ := p
  refine ⟨hw _, test x (List.mem_of_getElem? hx) H' S _ fun H'' S' => ?_⟩
  exact iteF (A := te _ H'' _) rfl ⟨S.trans S', S' _ _ hl⟩
theorem mulB {a n : Int} {A B : Nat} (ha : a.natAbs < 2 ^ A) (hn : n.natAbs < 2 ^ B) : -(2 ^ (A + B)) < a * n ∧ a * n < 2 ^ (A + B) := by
  have h := wide_lt ha hn
  have e : ((2 ^ (A + B) : Nat) : Int) = (2 : Int) ^ (A + B) := by simp
  rw [← e]
  omega
theorem dp_ints {K : PySem.W.Frag} {H : Hp} : ∀ ns : List Int, DpAll K H (ns.map V.int) (ns.map PyData.int)
  | [] => .nil
  | _ :: r => .cons (.int _) (dp_ints r)
theorem dp_listI {K : PySem.W.Frag} {H : Hp} {a : Addr} {ns : List Int} (h : SqL K H a (ns.map V.int)) : Dp K H (.ref a) (.list (ns.map PyData.int)) := .lst h (dp_ints ns)
theorem can_ints : ∀ ns : List Int, PyData.canLayAll0 (ns.map PyData.int) = true
  | [] => by simp [PyData.canLayAll0]
  | _ :: r => by simp only [List.map_cons, PyData.canLayAll0, PyData.canLay0, can_ints r, Bool.and_self]
theorem dep_ints : ∀ ns : List Int, PyData.depthAll (ns.map PyData.int) = 0
  | [] => by simp [PyData.depthAll]
  | _ :: r => by simp only [List.map_cons, PyData.depthAll, PyData.depth, dep_ints r, Nat.max_self]
theorem shaped_listI (ns : List Int) : SeqAt.shaped (.list (ns.map PyData.int)) = true := by
  simp only [SeqAt.shaped, PyData.canLay0, can_ints, PyData.depth, dep_ints]
  decide
theorem eqvAll_ints : ∀ ns ms : List Int, PyData.eqvAll (ns.map PyData.int) (ms.map PyData.int) = decide (ns = ms)
  | [], [] => by simp [PyData.eqvAll]
  | [], _ :: _ => by simp [PyData.eqvAll]
  | _ :: _, [] => by simp [PyData.eqvAll]
  | x :: r, y :: q => by
    simp only [List.map_cons, PyData.eqvAll, PyData.eqv, eqvAll_ints r q]
    by_cases h : x = y
    · subst h; simp
    · simp [h]
theorem eqv_listI (ns ms : List Int) : PyData.eqv (.list (ns.map PyData.int)) (.list (ms.map PyData.int)) = decide (ns = ms) := by
  simp only [PyData.eqv, eqvAll_ints]
theorem eqv_pair (a b c d : Int) : PyData.eqv (.tuple [.int a, .int b]) (.tuple [.int c, .int d]) = (a == c && b == d) := by
  simp [PyData.eqv, PyData.eqvAll]
theorem eqv_pairV (a b c d : Int) : PyData.eqv (.tuple [.int a, .int b]) (.tuple [.int c, .int d]) = (decide (V.int a = .int c) && decide (V.int b = .int d)) := by
  simp only [PyData.eqv, PyData.eqvAll, Bool.and_true, V.int.injEq]
  rw [Bool.eq_iff_iff]
  simp
theorem dp_pair {K : PySem.W.Frag} {H : Hp} {p : Addr} {a b : Int} (h : SqT K H p [.int a, .int b]) : Dp K H (.ref p) (.tuple [.int a, .int b]) := .tup h (.cons (.int _) (.cons (.int _) .nil))
theorem shaped_pair (a b : Int) : SeqAt.shaped (.tuple [.int a, .int b]) = true := by
  simp only [SeqAt.shaped, PyData.canLay0, PyData.canLayAll0, PyData.depth, PyData.depthAll]
  rfl
theorem isi {X : Cx} {K : PySem.W.Frag} (e : X.K = K) : CallR X (.builtin "isinstance") (rIsi K) := e ▸ call_isi
theorem dp_nil {K : PySem.W.Frag} {H : Hp} {p : Addr} (h : SqL K H p []) : Dp K H (.ref p) (.list []) := .lst h .nil
theorem eqv_nil : PyData.eqv (.list []) (.list []) = true := by simp [PyData.eqv, PyData.eqvAll]
theorem shaped_nil : SeqAt.shaped (.list []) = true := by
  simp only [SeqAt.shaped, PyData.canLay0, PyData.canLayAll0, PyData.depth, PyData.depthAll]
  rfl
/-- an item of a written list of ints at a drawn place -/
theorem pick {ns : List Int} {lo hi : Int} {K : PySem.W.Frag} {H : Hp} {a : Addr} {xs : List V} {d : Int} {Q : VK} (hm : ∀ n ∈ ns, lo ≤ n ∧ n ≤ hi) (e : SqL K H a xs) (eq : xs = ns.map V.int) (h0 : 0 ≤ d) (h1 : d < (ns.length : Int))
    (h : ∀ n : Int, n ∈ ns → lo ≤ n → n ≤ hi → Q (.int n) H) : rIxL K (.ref a) (.int d) H Q := by
  subst eq
  obtain ⟨j, rfl⟩ : ∃ j : Nat, d = (j : Int) := ⟨d.toNat, by omega⟩
  have hj : j < ns.length := by omega
  have hn : ns[j] ∈ ns := List.getElem_mem hj
  exact ⟨a, _, _, .int ns[j], rfl, rfl, e, atI_nat (by rw [List.getElem?_map, List.getElem?_eq_getElem hj]; rfl), h _ hn (hm _ hn).1 (hm _ hn).2⟩
theorem sgn {d n B : Int} (h0 : 0 ≤ d) (h1 : d < B) (m : n ∈ [(1 : Int), -1]) : -B < d * n ∧ d * n < B := by
  simp only [List.mem_cons, List.not_mem_nil, or_false] at m
  rcases m with rfl | rfl <;> omega
end Rd
/-! ## deques without a bound; bool(o) by the own __bool__ -/
namespace PySem
open PyProof.Rows
namespace F
theorem dq_attrs : PlainAttrs "collections.deque" :=
  ⟨⟨"collections.deque.__getattribute__", by rw [typeLookup_type, builtinLookup_eq_fast]; kernel_rfl, by decide +kernel⟩, by rw [typeLookup_type, builtinLookup_eq_fast]; kernel_rfl⟩
theorem dq_slot_append : Slot "collections.deque" "append" "collections.deque.append" :=
  .of (owner := "collections.deque") (n := "append") (by rw [typeLookup_type, builtinLookup_eq_fast]; kernel_rfl) (by decide +kernel) (by decide +kernel) (by decide +kernel)
    (by first | exact .inl (by decide +kernel) | exact .inr (by decide +kernel)) (by rw [isSubtype_type]; kernel_rfl)
theorem dq_slot_popleft : Slot "collections.deque" "popleft" "collections.deque.popleft" :=
  .of (owner := "collections.deque") (n := "popleft") (by rw [typeLookup_type, builtinLookup_eq_fast]; kernel_rfl) (by decide +kernel) (by decide +kernel) (by decide +kernel)
    (by first | exact .inl (by decide +kernel) | exact .inr (by decide +kernel)) (by rw [isSubtype_type]; kernel_rfl)
theorem dq_slot_item : Slot "collections.deque" "__getitem__" "collections.deque.__getitem__" :=
  .of (owner := "collections.deque") (n := "__getitem__") (by rw [typeLookup_type, builtinLookup_eq_fast]; kernel_rfl) (by decide +kernel) (by decide +kernel) (by decide +kernel)
    (by first | exact .inl (by decide +kernel) | exact .inr (by decide +kernel)) (by rw [isSubtype_type]; kernel_rfl)
theorem dq_slot_in : Slot "collections.deque" "__contains__" "collections.deque.__contains__" :=
  .of (owner := "collections.deque") (n := "__contains__") (by rw [typeLookup_type, builtinLookup_eq_fast]; kernel_rfl) (by decide +kernel) (by decide +kernel) (by decide +kernel)
    (by first | exact .inl (by decide +kernel) | exact .inr (by decide +kernel)) (by rw [isSubtype_type]; kernel_rfl)
theorem dq_type_append : typeOf (.builtin "collections.deque.append") = pure (.type "method_descriptor") := by show builtinType _ = _; rw [builtinType_eq_fast]; kernel_rfl
theorem dq_type_popleft : typeOf (.builtin "collections.deque.popleft") = pure (.type "method_descriptor") := by show builtinType _ = _; rw [builtinType_eq_fast]; kernel_rfl
theorem dq_entry_append : entryFor table "collections.deque.append" = some Builtin.«collections.deque.append» := entryFor_of_tree (by kernel_rfl)
theorem dq_entry_popleft : entryFor table "collections.deque.popleft" = some Builtin.«collections.deque.popleft» := entryFor_of_tree (by kernel_rfl)
theorem dq_entry_item : entryFor table "collections.deque.__getitem__" = some Builtin.«collections.deque.__getitem__» := entryFor_of_tree (by kernel_rfl)
theorem dq_entry_in : entryFor table "collections.deque.__contains__" = some Builtin.«collections.deque.__contains__» := entryFor_of_tree (by kernel_rfl)
theorem dq_args_append (a b : Value) : argsOk "collections.deque.append" ⟨[a, b], []⟩ := by unfold argsOk; kernel_rfl
theorem dq_args_popleft (a : Value) : argsOk "collections.deque.popleft" ⟨[a], []⟩ := by unfold argsOk; kernel_rfl
theorem dq_args_item (a b : Value) : argsOk "collections.deque.__getitem__" ⟨[a, b], []⟩ := by unfold argsOk; kernel_rfl
theorem dq_args_in (a b : Value) : argsOk "collections.deque.__contains__" ⟨[a, b], []⟩ := by unfold argsOk; kernel_rfl
end F
/-- the record of a deque without a bound: its count of changes, its items -/
def dqA (st : Int) (its : List Value) : Array Value := #[Value.none, rawInt st] ++ its.toArray
theorem dqA_size (st : Int) (its : List Value) : (dqA st its).size = its.length + 2 := by unfold dqA; simp
theorem dqA_0 (st : Int) (its : List Value) : (dqA st its)[0]? = some Value.none := by unfold dqA; simp
theorem dqA_1 (st : Int) (its : List Value) : (dqA st its)[1]? = some (rawInt st) := by unfold dqA; simp
theorem dqA_items (st : Int) (its : List Value) : (dqA st its).extract 2 (dqA st its).size = its.toArray := by
  apply Array.toList_inj.mp
  unfold dqA
  simp
section
variable {prog : Program} {w : World} {A : Around} {E : Value → Shared → Prop} {s : Shared} {l : Addr} {st : Int} {its : List Value}
abbrev dqAt (s : Shared) (l : Addr) (st : Int) (its : List Value) : Prop := s.heap.get? l = some (recObj "collections.deque" (dqA st its))
theorem dq_size {Q : Nat → Shared → Prop} (hl : dqAt s l st its) (h : Q its.length s) : wpAny (model prog w) A (Builtin.Deque.size (.ref l)) Q E s := by
  unfold Builtin.Deque.size
  refine wpAny_bind (wpAny_fieldsOf hl rfl (wpAny_pure ?_))
  rw [dqA_size]
  exact h
theorem dq_items {Q : Array Value → Shared → Prop} (hl : dqAt s l st its) (h : Q its.toArray s) : wpAny (model prog w) A (Builtin.Deque.items (.ref l)) Q E s := by
  unfold Builtin.Deque.items
  refine wpAny_bind (wpAny_fieldsOf hl rfl (wpAny_pure ?_))
  rw [dqA_items]
  exact h
theorem dq_state {Q : Int → Shared → Prop} (hl : dqAt s l st its) (h : Q st s) : wpAny (model prog w) A (Builtin.Deque.state (.ref l)) Q E s := by
  unfold Builtin.Deque.state
  refine wpAny_bind (wpAny_field hl rfl (dqA_1 st its) ?_)
  exact wpAny_pure h
theorem dq_maxlen {Q : Option Nat → Shared → Prop} (hl : dqAt s l st its) (h : Q none s) : wpAny (model prog w) A (Builtin.Deque.maxlen (.ref l)) Q E s := by
  unfold Builtin.Deque.maxlen
  refine wpAny_bind (wpAny_field hl rfl (dqA_0 st its) ?_)
  exact wpAny_pure h
theorem dq_change {f : Array Value → Array Value} {its' : List Value} {Q : Unit → Shared → Prop} (hl : dqAt s l st its) (hf : f its.toArray = its'.toArray) (hz : its'.length ≤ sizeLine)
    (h : ∀ h', h'.get? l = some (recObj "collections.deque" (dqA (st + 1) its')) → Heap.SameBut l s.heap h' → Q () { s with heap := h' }) : wpAny (model prog w) A (Builtin.Deque.change (.ref l) f) Q E s := by
  unfold Builtin.Deque.change
  show wpAny _ _ (Builtin.Deque.state (.ref l) >>= _) _ _ _
  refine wpAny_bind (dq_state hl ?_)
  refine wpAny_updateFields hl rfl (h _ ?_ ?_) ?_
  · rw [Heap.get?_update_self _ hl rfl]
    show some (recObj "collections.deque" (#[(dqA st its).getD 0 .none, rawInt (if true = true then st + 1 else st)] ++ f ((dqA st its).extract 2 (dqA st its).size))) = _
    rw [dqA_items, hf, show (dqA st its).getD 0 .none = .none by unfold dqA; simp]
    rfl
  · exact Heap.SameBut.update ..
  · rw [dqA_items, hf]
    simp
    omega
theorem dq_append {x : Value} {Q : Value → Shared → Prop} (hl : dqAt s l st its) (hz : its.length < sizeLine)
    (h : ∀ h', h'.get? l = some (recObj "collections.deque" (dqA (st + 1) (its ++ [x]))) → Heap.SameBut l s.heap h' → Q .none { s with heap := h' }) :
    wpAny (model prog w) A (call (.builtin "collections.deque.append") [.ref l, x]) Q E s := by
  refine wpAny_call_entry F.dq_slot_append ⟨_, hl, rfl⟩ F.dq_entry_append ?_ (F.dq_args_append _ _)
  unfold Builtin.«collections.deque.append»
  refine wpAny_bind (wpAny_of_eq (a := ((Value.ref l, x) : Value × Value)) (by rfl) ?_)
  show wpAny _ _ (Builtin.Deque.pushRight (.ref l) x >>= fun _ => ret .none) _ _ _
  refine wpAny_bind ?_
  unfold Builtin.Deque.pushRight
  refine wpAny_bind (dq_change (its' := its ++ [x]) hl (by simp) (by rw [List.length_append, List.length_singleton]; omega) fun h' hg sb => ?_)
  refine wpAny_bind (dq_maxlen (st := st + 1) (its := its ++ [x]) hg ?_)
  exact wpAny_pure (wpAny_pure ⟨_, rfl, h h' hg sb⟩)
theorem dq_popleft {x : Value} {Q : Value → Shared → Prop} (hl : dqAt s l st (x :: its)) (hz : its.length < sizeLine)
    (h : ∀ h', h'.get? l = some (recObj "collections.deque" (dqA (st + 1) its)) → Heap.SameBut l s.heap h' → Q x { s with heap := h' }) :
    wpAny (model prog w) A (call (.builtin "collections.deque.popleft") [.ref l]) Q E s := by
  refine wpAny_call_entry F.dq_slot_popleft ⟨_, hl, rfl⟩ F.dq_entry_popleft ?_ (F.dq_args_popleft _)
  unfold Builtin.«collections.deque.popleft»
  refine wpAny_bind (wpAny_of_eq (a := Value.ref l) (by rfl) ?_)
  refine wpAny_bind (dq_items hl ?_)
  rw [show (x :: its).toArray[0]? = some x by simp]
  dsimp only
  refine wpAny_bind (dq_change (its' := its) hl (by simp) (by omega) fun h' hg sb => ?_)
  exact wpAny_pure ⟨_, rfl, h h' hg sb⟩
theorem pi_entry : entryFor table "proto.index" = some Builtin.«proto.index» := entryFor_of_tree (by kernel_rfl)
theorem pi_plain : plainId "proto.index" = true := by decide +kernel
theorem pi_int {i : Int} {t : Tok} {Q : Value → Shared → Prop} (h0 : -(2 ^ 63) ≤ i) (h1 : i < 2 ^ 63) (h : Q (.int i s.toks) { s with toks := s.toks + 1 }) :
    wpAny (model prog w) A (runValue (.builtin "proto.index" ⟨[.int i t], []⟩)) Q E s := by
  refine wpAny_runValue (codeAny_builtin pi_entry ?_)
  rw [Around.under_plainId pi_plain _]
  refine wpAny_mono (Q := fun fin s' => ∃ r, fin = .done (.ret r) ∧ Q r s') ?_ (fun fin s' h' => by obtain ⟨r, rfl, hq⟩ := h'; exact hq) fun _ _ e => e
  unfold Builtin.«proto.index»
  have f1 := AutoSeq1.idx_int
  have e1 : (decide (i < -2 ^ 63) || decide (i ≥ 2 ^ 63)) = false := by rw [decide_eq_false (by omega), decide_eq_false (by omega)]; rfl
  obtain ⟨hp, g, d, tk, os⟩ := s
  wp_walk
  rw [if_neg (by rw [e1]; exact Bool.false_ne_true)]
  wp_walk
  exact ⟨_, rfl, h⟩
theorem lk_int_index : typeLookup (.type "int") "__index__" = pure (some (.builtin "int.__index__")) := by rw [typeLookup_type, builtinLookup_eq_fast]; kernel_rfl
theorem dq_key {i : Int} {t : Tok} {Q : Value → Shared → Prop} (hl : dqAt s l st its) (h0 : -(2 ^ 63) ≤ i) (h1 : i < 2 ^ 63) (h : ∀ u, Q (.int i u) { s with toks := s.toks + 1 }) :
    wpAny (model prog w) A (sequenceKey (.ref l) (.int i t) "__getitem__") Q E s := by
  have hT : s.TypeIs (.ref l) "collections.deque" := ⟨_, hl, rfl⟩
  unfold sequenceKey
  refine wpAny_bind (wpAny_typeOf hT ?_)
  dsimp only
  rw [if_neg (by decide)]
  refine wpAny_bind (wpAny_of_eq F.dq_slot_item.lookup ?_)
  try dsimp only
  rw [if_neg (by decide +kernel)]
  refine wpAny_bind (wpAny_specialOf (typeIs_int s i t) lk_int_index ?_)
  try dsimp only
  rw [if_neg (by decide)]
  refine wpAny_bind (wpAny_rule ?_)
  exact pi_int h0 h1 (h _)
theorem dq_first {x : Value} {t : Tok} {Q : Value → Shared → Prop} (hl : dqAt s l st (x :: its)) (hz : its.length < sizeLine) (h : ∀ k, Q x { s with toks := k }) :
    wpAny (model prog w) A (getItem (.ref l) (.int 0 t)) Q E s := by
  have hT : s.TypeIs (.ref l) "collections.deque" := ⟨_, hl, rfl⟩
  unfold getItem
  refine wpAny_holding ?_
  refine wpAny_bind (dq_key hl (by decide) (by decide) fun u => ?_)
  refine wpAny_bind (wpAny_callSpecial?_slot (name := Str.ofString "__getitem__") ⟨_, hl, rfl⟩ F.dq_slot_item (wpAny_call_entry F.dq_slot_item ⟨_, hl, rfl⟩ F.dq_entry_item ?_ (F.dq_args_item _ _)))
  unfold Builtin.«collections.deque.__getitem__»
  have f1 := AutoSeq1.idx_int
  refine wpAny_bind (wpAny_of_eq (a := ((Value.ref l, [Value.int 0 u]) : Value × List Value)) (by first | rfl | (simp only [slotArgs]; rfl)) ?_)
  dsimp only
  have e0 : seqIndex? 0 (x :: its).length = some 0 := by simp [seqIndex?]
  have hl' : dqAt { s with toks := s.toks + 1 } l st (x :: its) := hl
  wp_walk using dq_size hl', dq_items hl'
  simp only [e0]
  wp_walk using dq_size hl', dq_items hl'
  exact ⟨_, rfl, wpAny_pure (h _)⟩
theorem vals_ints {ns : List Int} {us : List Value} (h : L2.Vals (ns.map L2.V.int) us) : us.length = ns.length ∧ ∀ j, j < ns.length → ∃ n t, ns[j]? = some n ∧ us[j]? = some (.int n t) := by
  have hl := h.length
  rw [List.length_map] at hl
  refine ⟨hl.symm, fun j hj => ?_⟩
  obtain ⟨u, hu, r⟩ := h.get (i := j) (x := .int ns[j]) (by rw [List.getElem?_map, List.getElem?_eq_getElem hj]; rfl)
  obtain ⟨t, rfl⟩ := (show ∃ t, u = Value.int ns[j] t from r)
  exact ⟨_, t, List.getElem?_eq_getElem hj, hu⟩
theorem dq_in {i : Int} {t : Tok} {ns : List Int} {Q : Value → Shared → Prop} (hl : dqAt s l st its) (hn : L2.Vals (ns.map L2.V.int) its) (h : Q (.bool (decide (i ∈ ns))) s) :
    wpAny (model prog w) A (call (.builtin "collections.deque.__contains__") [.ref l, .int i t]) Q E s := by
  obtain ⟨hlen, hat⟩ := vals_ints hn
  refine wpAny_call_entry F.dq_slot_in ⟨_, hl, rfl⟩ F.dq_entry_in ?_ (F.dq_args_in _ _)
  unfold Builtin.«collections.deque.__contains__»
  refine wpAny_bind (wpAny_of_eq (a := ((Value.ref l, [Value.int i t]) : Value × List Value)) (by first | rfl | (simp only [slotArgs]; rfl)) ?_)
  dsimp only
  refine wpAny_bind (dq_state hl (wpAny_bind (dq_size hl ?_)))
  refine wpAny_bind (SeqAt.wpAny_forIn_span 0 its.length _ (fun j c s' => c.1 = none ∧ s' = s ∧ ∀ k, k < j → ns[k]? ≠ some i) _ ?turn ?fin _ ?start)
  case turn =>
    rintro j ⟨c, u⟩ s' _ hj ⟨rfl, rfl, hno⟩
    obtain ⟨n, tn, h1, h2⟩ := hat j (by omega)
    refine wpAny_bind (dq_items hl ?_)
    rw [show its.toArray[j]? = some (Value.int n tn) by simpa using h2]
    dsimp only
    refine wpAny_bind (wpAny_eqBool_int ?_)
    by_cases e : n = i
    · subst e
      rw [beq_self_eq_true, if_pos rfl]
      have hm : decide (n ∈ ns) = true := decide_eq_true (List.mem_of_getElem? h1)
      rw [hm] at h
      exact wpAny_bind (wpAny_pure (wpAny_pure (wpAny_pure ⟨_, rfl, h⟩)))
    · rw [show (n == i) = false from beq_eq_false_iff_ne.mpr e, if_neg Bool.false_ne_true]
      refine wpAny_bind (dq_state hl ?_)
      rw [if_neg (by simp)]
      refine wpAny_pure ⟨rfl, rfl, fun k hk => ?_⟩
      rcases Nat.lt_or_ge k j with q | q
      · exact hno k q
      · have ek : k = j := by omega
        subst ek
        rw [h1]
        exact fun z => e (Option.some.inj z)
  case fin =>
    rintro ⟨c, u⟩ s' ⟨rfl, rfl, hno⟩
    have hm : decide (i ∈ ns) = false := decide_eq_false fun z => by
      obtain ⟨k, hk⟩ := List.getElem?_of_mem z
      have hk' : k < ns.length := (List.getElem?_eq_some_iff.mp hk).1
      exact hno k (by omega) hk
    rw [hm] at h
    exact wpAny_pure ⟨_, rfl, h⟩
  case start => exact ⟨rfl, rfl, fun k hk => absurd hk (Nat.not_lt_zero _)⟩
theorem dq_len {Q : Value → Shared → Prop} (hl : dqAt s l st its) (hz : its.length ≤ sizeLine) (h : ∀ u tk, Q (.int its.length u) { s with toks := tk }) :
    wpAny (model prog w) A (call (.builtin "len") [.ref l]) Q E s := by
  have hT : s.TypeIs (.ref l) "collections.deque" := ⟨_, hl, rfl⟩
  have hb : its.length < 2 ^ 63 := Nat.lt_of_le_of_lt hz (by decide)
  refine Calls.call_function_entry kind_len plain_len entry_len (args_len1 _) ?_
  unfold Builtin.«len»
  refine wpAny_bind (m := oneArg "len" _) (wpAny_pure ?_)
  refine wpAny_bind (m := callSpecial? (.ref l) (Str.ofString "__len__")) (wpAny_callSpecial?_slot (name := Str.ofString "__len__") hT F.dq_slot_len
    (wpAny_call_entry F.dq_slot_len hT F.dq_entry_len ?_ (F.dq_args_len _)))
  show wpAny _ _ (Builtin.Deque.size (.ref l) >>= fun k => retInt k) _ _ s
  refine wpAny_bind (dq_size hl ?_)
  refine wpAny_bind (wpAny_mkInt (wpAny_pure ⟨_, rfl, ?_⟩))
  refine wpAny_bind (wpAny_holding (wpAny_pure ?_))
  refine wpAny_bind (wpAny_letGo ?_)
  show wpAny _ _ (if ((its.length : Nat) : Int) < 0 then _ else _) _ _ _
  rw [if_neg (by omega)]
  show wpAny _ _ (if ((its.length : Nat) : Int) ≥ 2 ^ 63 then _ else _) _ _ _
  rw [if_neg (by omega)]
  exact wpAny_bind (wpAny_mkInt (wpAny_pure ⟨_, rfl, h _ _⟩))
end
end PySem
namespace L2
open PySem PySem.Spec PyProof.Rows
/-- a deque without a bound: its items -/
abbrev DqO (a : Addr) (xs : List V) : HO := .ext fun h => ∃ (its : List Value) (st : Int), Vals xs its ∧ h.get? a = some (recObj "collections.deque" (dqA st its))
theorem dqO_ok {P : Program} {w : World} {H : Hp} {h : Heap} {a : Addr} {xs : List V} {its : List Value} {st : Int} (r : Vals xs its) (e : h.get? a = some (recObj "collections.deque" (dqA st its))) : ObjOk P w H h a (DqO a xs) :=
  ⟨⟨its, st, r, e⟩, ⟨_, e⟩, fun _ _ p k => by obtain ⟨i, s, r, q⟩ := p; exact ⟨i, s, r, k _ q⟩⟩
section
variable {X : Cx} {pins : List (Addr × Obj)} {σ : St} {H : Hp} {s : Shared} {a : Addr} {xs ys : List V}
theorem Inv.dq (I : Inv X pins σ H s) (e : H a = some (DqO a xs)) : ∃ its st, Vals xs its ∧ s.heap.get? a = some (recObj "collections.deque" (dqA st its)) := (I.hok a _ e).1
theorem Inv.dqW {h' : Heap} {t' : Nat} {its : List Value} {st : Int} (I : Inv X pins σ H s) (e : H a = some (DqO a xs)) (k : ∀ b u, b ≠ a → s.heap.get? b = some u → h'.get? b = some u) (r : Vals ys its)
    (new : h'.get? a = some (recObj "collections.deque" (dqA st its))) : Inv X pins σ (upd H a (DqO a ys)) { s with heap := h', toks := t' } :=
  I.write (by rw [e]; exact True.intro) (.inl rfl) k ⟨_, new⟩ (dqO_ok r new)
theorem Inv.dqL {h' : Heap} {t' : Nat} {its : List Value} {st : Int} (I : Inv X pins σ H s) (hp : s.heap.objs.size ≤ a) (k : ∀ b u, s.heap.get? b = some u → h'.get? b = some u) (r : Vals xs its) (new : h'.get? a = some (recObj "collections.deque" (dqA st its))) :
    Inv X pins σ (upd H a (DqO a xs)) { s with heap := h', toks := t' } := I.laid k hp (dqO_ok r new)
end
section
variable {X : Cx} {pos p : Pos} {x : Str} {e : Expr} {es : List Expr}
theorem call_dq : CallR X (.type "collections.deque") (fun xs H Q => xs = [] ∧ ∀ q, H q = none → Q (.ref q) (upd H q (DqO q []))) := by
  intro pins s σ H xs us Q I r h
  obtain ⟨rfl, q⟩ := h
  cases r
  refine dq_call0 fun h' hg k => ⟨.ref s.heap.objs.size, _, I.dqL (t' := s.toks) (its := []) (st := 0) (Nat.le_refl _) k .nil hg, rfl, q _ (I.hok.fresh (Nat.le_refl _))⟩
theorem mt_dqAppend : MtR X "collections.deque.append" (fun x vs H Q => ∃ a xs y, x = .ref a ∧ vs = [y] ∧ H a = some (DqO a xs) ∧ xs.length < sizeLine ∧ Q .non (upd H a (DqO a (xs ++ [y])))) := by
  intro pins s σ H x vs v us Q I rx rv h
  obtain ⟨a, xs, y, rfl, rfl, e, hz, q⟩ := h
  cases rx
  obtain ⟨u, rfl, ru⟩ := rv.one
  obtain ⟨its, st, r, hg⟩ := I.dq e
  refine dq_append hg (by rw [← r.length]; exact hz) fun h' hg' sb => ⟨.non, _, I.dqW (t' := s.toks) e (fun b o n k => (sb.2 b n).trans k) (r.append (.cons ru .nil)) hg', rfl, q⟩
theorem mt_dqPopleft : MtR X "collections.deque.popleft" (fun x vs H Q => ∃ a y xs, x = .ref a ∧ vs = [] ∧ H a = some (DqO a (y :: xs)) ∧ xs.length < sizeLine ∧ Q y (upd H a (DqO a xs))) := by
  intro pins s σ H x vs v us Q I rx rv h
  obtain ⟨a, y, xs, rfl, rfl, e, hz, q⟩ := h
  cases rx
  cases rv
  obtain ⟨its, st, r, hg⟩ := I.dq e
  cases r with
  | cons ru r =>
    exact dq_popleft hg (by rw [← r.length]; exact hz) fun h' hg' sb => ⟨y, _, I.dqW (t' := s.toks) e (fun b o n k => (sb.2 b n).trans k) r hg', ru, q⟩
theorem op_in_dq : OpR X (compareOp .In) (fun x y H Q => ∃ (i : Int) (a : Addr) (ns : List Int), x = .int i ∧ y = .ref a ∧ H a = some (DqO a (ns.map V.int)) ∧ Q (.bl (decide (i ∈ ns))) H) := by
  intro pins s σ H x y v u Q I rx ry h
  obtain ⟨i, a, ns, rfl, rfl, e, q⟩ := h
  obtain ⟨t, rfl⟩ := (show ∃ t, v = Value.int i t from rx)
  cases ry
  obtain ⟨its, st, r, hg⟩ := I.dq e
  show wpAny _ _ (do return Value.bool (← contains (.ref a) (.int i t))) _ _ _
  refine wpAny_bind (PySem.wpAny_contains_slot ⟨_, hg, rfl⟩ F.dq_slot_in (dq_in hg r (wpAny_truthy_bool (wpAny_pure ⟨.bl _, H, I, rfl, q⟩))))
theorem call_len_dq : CallR X (.builtin "len") (fun xs H Q => ∃ a ys, xs = [V.ref a] ∧ H a = some (DqO a ys) ∧ ys.length ≤ sizeLine ∧ Q (.int ys.length) H) := by
  intro pins s σ H xs us Q I r h
  obtain ⟨a, ys, rfl, ha, hz, q⟩ := h
  obtain ⟨u, rfl, ru⟩ := vals1 r
  cases ru
  obtain ⟨its, st, r, hg⟩ := I.dq ha
  exact dq_len hg (by rw [← r.length]; exact hz) fun u tk => ⟨.int ys.length, H, I.tok _, ⟨u, by rw [r.length]⟩, q⟩
/-- d[0] -/
theorem ix_dq0 : IxR X (fun x y H Q => ∃ (a : Addr) (z : V) (xs : List V), x = .ref a ∧ y = .int 0 ∧ H a = some (DqO a (z :: xs)) ∧ xs.length < sizeLine ∧ Q z H) := by
  intro value slice pins s σ H x y v u Q I rx ry h hs
  obtain ⟨a, z, xs, rfl, rfl, ha, hz, q⟩ := h
  cases rx
  obtain ⟨t, rfl⟩ := ry
  obtain ⟨its, st, r, hg⟩ := I.dq ha
  cases r with
  | cons ru r =>
    rename_i w its
    exact subscriptTail_builtinR (x := w) (T := "collections.deque") ⟨_, hg, rfl⟩ F.dq_slot_item.lookup
      (dq_first (Q := fun r s' => r = w ∧ EP X pins σ Q r s') hg (by rw [← r.length]; exact hz) fun k => ⟨rfl, z, H, I.tok _, ru, q⟩) hs
/-! ### methods of deques -/
def tDM0 (r : V → List V → Hp → VK → Prop) (to : TE) : TE := fun σ H Q => to σ H fun x H1 => (∃ a xs, x = .ref a ∧ H1 a = some (DqO a xs)) ∧ r x [] H1 Q
def tDM (r : V → List V → Hp → VK → Prop) (to : TE) (t : TA) : TE := fun σ H Q => to σ H fun x H1 => (∃ a xs, x = .ref a ∧ H1 a = some (DqO a xs)) ∧ t σ H1 fun vs H2 => r x vs H2 Q
theorem dq_ty {pins : List (Addr × Obj)} {σ : St} {H : Hp} {s : Shared} {y : V} {v : Value} (I : Inv X pins σ H s) (r : RelV y v) (ty : ∃ a xs, y = .ref a ∧ H a = some (DqO a xs)) :
    s.TypeIs v "collections.deque" ∧ ∀ a, v = .ref a → ∃ ob, s.heap.get? a = some ob ∧ ob.dict = none := by
  obtain ⟨a, xs, rfl, e⟩ := ty
  cases r
  obtain ⟨its, st, r, hg⟩ := I.dq e
  refine ⟨⟨_, hg, rfl⟩, fun b hb => ?_⟩
  cases hb
  exact ⟨_, hg, rfl⟩
variable {o : Expr} {to : TE} {t : TA} {name : Str} {apos cpos : Pos} {id : String} {r : V → List V → Hp → VK → Prop}
theorem pe_dm0 (slot : Slot "collections.deque" name id) (hty : typeOf (.builtin id) = pure (.type "method_descriptor")) (hm : MtR X id r) (ho : PE X o to)
    (hbase : attributeBase o name X.env (eval o X.env) = eval o X.env := by rfl) (hline : (apos.endLine == cpos.line) = true := by rfl) : PE X (.Call (.Attribute o name apos) [] [] cpos) (tDM0 r to) := by
  refine ⟨fun pins s σ H Q I h => ?_⟩
  refine wpAny_Call_method0_late hbase hline (thn (ho.run pins s σ H _ I h) fun v s1 ⟨x, H1, I1, r1, ty, q1⟩ => ?_)
  obtain ⟨h1, h2⟩ := dq_ty I1 r1 ty
  exact ⟨"collections.deque", id, F.dq_attrs, slot, hty, h1, h2, Calls.callWith_builtin rfl (PySem.evalArgs_none (hm pins s1 σ H1 x [] v [] Q I1 r1 .nil q1))⟩
theorem pe_dm (slot : Slot "collections.deque" name id) (hty : typeOf (.builtin id) = pure (.type "method_descriptor")) (hm : MtR X id r) (ho : PE X o to) (ha : PA X (e :: es) t)
    (hbase : attributeBase o name X.env (eval o X.env) = eval o X.env := by rfl)
    (hfew : ((backTo cpos (starEach (e :: es) X.env)).all (fun x => !x.1) && (backToKw cpos (keywordEach [] X.env)).all (fun x => x.1.isSome)
      && decide ((e :: es).length + ([] : List Keyword).length + (if ([] : List Keyword).isEmpty then 0 else 1) < 30)) = true := by rfl)
    (hline : (apos.endLine == cpos.line) = true := by rfl) (hs : starEach (e :: es) X.env = (false, eval e X.env) :: starEach es X.env := by rfl) (hplain : (backTo cpos (starEach es X.env)).any (·.1) = false := by rfl) :
    PE X (.Call (.Attribute o name apos) (e :: es) [] cpos) (tDM r to t) := by
  refine ⟨fun pins s σ H Q I h => ?_⟩
  refine wpAny_Call_method_late hbase hfew hline rfl (thn (ho.run pins s σ H _ I h) fun v s1 ⟨x, H1, I1, r1, ty, q1⟩ => ?_)
  obtain ⟨h1, h2⟩ := dq_ty I1 r1 ty
  refine ⟨"collections.deque", id, F.dq_attrs, slot, hty, h1, h2, ?_⟩
  have hA := ha.run cpos pins s1 σ H1 _ I1 q1
  rw [hs] at hA ⊢
  refine Calls.callWith_builtin (by show (false || (backTo cpos (starEach es X.env)).any (·.1)) = false; rw [hplain] <;> rfl) (Calls.evalArgs_plain ?_)
  exact thn hA fun us s2 ⟨vs, H2, I2, r2, q2⟩ => hm pins s2 σ H2 x vs v us Q I2 r1 r2 q2
end
end L2
namespace Own
open PySem PySem.Spec PyProof.Rows L2
section
variable {X : Cx} {CX : CXT} {k : Nat} {f f0 C : Addr} {fd : FuncData} {ps : List Str} {sp : Sp} {E : XK} {op : Operator}
theorem runIn2 {pins : List (Addr × Obj)} {σ : L2.St} {H : Hp} {s : Shared} {Q : VK} {us : List Value} {vs : List V} (F : FnOk X.prog X.w X.K X.mg X.base CX k f fd ps sp) (hr : Room (k + 2) X.A) (hb : Binds X.K fd ps []) (hx : Passes CX X E)
    (I : Inv X pins σ H s) (r : Vals vs us) (h : sp vs H Q E) : wpAny (model X.prog X.w) X.A.in1.in1 (PySem.call (.ref f) us) (EP X pins σ Q) X.xe s := by
  have hl : us.length = ps.length := by rw [← r.length]; exact F.len _ _ _ _ h
  have hb' := hb s us I.kIn (by simpa using hl)
  rw [List.append_nil] at hb'
  refine wpAny_call (codeAny_mono (F.run X.A.in1.in1 X.stack s H ⟨us, []⟩ us vs Q E hr.in1.in1 I.env0.in1.in1 hb' r h) fun r s' hq => ?_)
  cases r with
  | error e => exact hx pins σ H s e s' I hq
  | ok fl =>
    cases fl with
    | ret u => exact I.after hq
    | next => exact False.elim hq
    | brk => exact False.elim hq
    | cont => exact False.elim hq
theorem boolOwn (F : FnOk X.prog X.w X.K X.mg X.base CX k f fd ps sp) (hr : Room (k + 2) X.A) (B : Sp1 X.K C "__bool__" f) (hb : Binds X.K fd ps []) (hx : Passes CX X E) :
    CallR X (.type "bool") (fun xs H Q => ∃ a dx fs, xs = [.ref a] ∧ H a = some (.ins C dx fs) ∧ sp [.ref a] H (fun v H' => ∃ b, v = .bl b ∧ Q (.bl b) H') E) := by
  rintro pins s σ H xs us Q I rs ⟨a, dx, fs, rfl, ha, q⟩
  cases rs with
  | cons r rest =>
    cases rest
    cases r
    obtain ⟨od, J⟩ := inst I ha
    obtain ⟨m, hF⟩ := I.fr
    have tr : wpAny (model X.prog X.w) X.A.in1.in1 (truthy (.ref a)) (fun b s' => EP X pins σ Q (.bool b) s') X.xe s :=
      PySem.W.truthy_K hF I.ok.mod.kin J B.at_ B.fn (wpAny_mono (runIn2 (us := [.ref a]) (vs := [.ref a]) F hr hb hx I (.cons rfl .nil) q) (fun r s' hq => by
        obtain ⟨z, H', I', rz, b, rfl, q'⟩ := hq
        cases rz
        exact ⟨.bl b, H', I', rfl, q'⟩) fun _ _ e => e)
    refine callType_codes (Q₁ := fun obj s₁ => ∃ b, obj = Value.bool b ∧ EP X pins σ Q obj s₁) PySem.F.called_bool (PySem.F.typeCall_bool_1 _) PySem.F.entry_object_init ?_ ?_
    · refine codeAny_call_builtin PySem.F.called_bool.plain PySem.F.entry_bool_new (wpAny_of_eq (PySem.F.newCall_bool_1 _) ?_)
      unfold Builtin.«bool.__new__»
      have f1 := PySem.F.conv_sub_bool
      refine wpAny_bind (wpAny_of_eq (a := true) rfl ?_)
      rw [if_neg (by decide)]
      refine wpAny_bind (wpAny_of_eq f1 ?_)
      rw [if_neg (by decide)]
      refine wpAny_bind (wpAny_of_eq (a := [Value.ref a]) (by rfl) ?_)
      dsimp only
      refine wpAny_bind (wpAny_mono tr (fun b s' hq => ?_) fun _ _ e => e)
      exact wpAny_pure ⟨_, rfl, hq⟩
    · rintro obj s₁ ⟨b, rfl, hq⟩
      have hT : s₁.TypeIs (.bool b) "bool" := PyProof.Rows.typeIs_bool' s₁ b
      exact ⟨hT, PySem.F.args_object_init_2 _ _, object_init_meets PySem.F.called_bool.init.lookup PySem.F.called_bool.made PySem.F.newNe_bool X.prog X.w X.A.in1 _ s₁ ⟨hT, rfl, hq⟩⟩
end
end Own

namespace Rd
open PySem PySem.Spec PyProof.Rows L2
theorem mapApp {ns : List Int} {v : Int} : ns.map V.int ++ [V.int v] = (ns ++ [v]).map V.int := by simp
theorem mapTail {n : Int} {ns : List Int} : (List.map V.int (n :: ns)).eraseIdx 0 = List.map V.int ns := rfl
theorem atI0 {n : Int} {ms : List Int} : atI (List.map V.int (n :: ms)) 0 = some (V.int n) := atI_nat (j := 0) rfl
theorem flat_ints (ns : List Int) : (ns.map V.int).all flatV = true := by
  rw [List.all_eq_true]
  intro v hv
  obtain ⟨n, _, rfl⟩ := List.mem_map.mp hv
  rfl
theorem inV_ints (i : Int) (ns : List Int) : inV (.int i) (ns.map V.int) = decide (i ∈ ns) := by
  unfold inV
  rw [List.any_map]
  induction ns with
  | nil => rfl
  | cons n ns ih =>
    rw [List.any_cons, ih]
    show (eqV (.int n) (.int i) || _) = _
    have e : eqV (.int n) (.int i) = decide (n = i) := by first | (simp [eqV]; done) | (simp [eqV]; rfl)
    rw [e]
    by_cases h : n = i
    · subst h; simp
    · have h' : ¬ i = n := fun z => h z.symm
      simp [h, h', List.mem_cons]
theorem inEq (i : Int) (ns : List Int) : decide (V.bl (decide (i ∈ ns)) = V.bl (if false = true then !inV (.int i) (ns.map V.int) else inV (.int i) (ns.map V.int))) = true := by
  rw [if_neg Bool.false_ne_true, inV_ints]
  exact decide_eq_true rfl
end Rd

/-! ## heaps: what a step leaves -/
def Frm (a : Nat) (H H' : L2.Hp) : Prop := ∀ b o, H b = some o → b ≠ a → H' b = some o
section
open PySem L2
variable {H H' H1 H2 : Hp} {a b p : Nat} {o u : HO}
theorem Frm.get (f : Frm a H H') (h : H b = some o) (n : b ≠ a) : H' b = some o := f b o h n
theorem Sget (f : L2.Same H H') (h : H b = some o) : H' b = some o := f b o h
theorem Frm.free (f : Frm a H H') (n : b ≠ a) (h : H' b = none) : H b = none := by
  cases q : H b with
  | none => rfl
  | some o => rw [f b o q n] at h; cases h
theorem Sfree (f : L2.Same H H') (h : H' b = none) : H b = none := L2.Same.free f h
theorem updFree (h : upd H a o b = none) : H b = none := by
  unfold upd at h
  split at h
  · cases h
  · exact h
theorem updGet' (h : H b = some o) (n : b ≠ a) : upd H a u b = some o := by rw [upd_ne n]; exact h
theorem ne_none (h : H b = none) (h' : H a = some o) : a ≠ b := ne_of_none h' h
theorem ne_none' (h : H a = none) (h' : H b = some o) : a ≠ b := (ne_of_none h' h).symm
theorem updFresh (n : H a = none) (h : H b = some o) : upd H a u b = some o := updGet' h (ne_of_none h n)
theorem updMade {x dx : Nat} {v : HO} (n : H x = none) (m : H dx = none) (h : H b = some o) : upd (upd H dx u) x v b = some o := updGet' (updGet' h (ne_of_none h m)) (ne_of_none h n)
theorem Frm.get' (f : Frm a H H') (n : b ≠ a) (h : H b = some o) : H' b = some o := f b o h n
theorem updGet (n : b ≠ a) (h : H b = some o) : upd H a u b = some o := by rw [upd_ne n]; exact h
end

local macro_rules | `(tactic| walk_at "hp") => `(tactic| first
  | with_reducible assumption
  | with_reducible exact L2.upd_same
  | ((with_reducible apply updFresh); (· with_reducible assumption); (· walk_at "hp"))
  | ((with_reducible apply updMade); (· with_reducible assumption); (· with_reducible assumption); (· walk_at "hp"))
  | ((with_reducible apply updGet); (· walk_at "ne"); (· walk_at "hp"))
  | ((with_reducible apply Sget); (· with_reducible assumption); (· walk_at "hp"))
  | ((with_reducible apply Frm.get'); (· with_reducible assumption); (· walk_at "ne"); (· walk_at "hp"))
  | fail "hp")
local macro_rules | `(tactic| walk_at "ne") => `(tactic| first
  | with_reducible assumption
  | exact Ne.symm (by with_reducible assumption)
  | ((with_reducible apply ne_none); (· with_reducible assumption); (· walk_at "hp"))
  | ((with_reducible apply ne_none'); (· with_reducible assumption); (· walk_at "hp"))
  | ((with_reducible apply L2.ne_of); (· walk_at "hp"); (· walk_at "hp"); (· (intro z; cases z)))
  | fail "ne")
local macro_rules | `(tactic| walk_at "vr") => `(tactic| with_unfolding_all rfl)
local macro_rules | `(tactic| walk_at "hpl") => `(tactic| first
  | with_reducible assumption
  | ((with_reducible apply L2.SqL.of); walk_at "hp"))
local macro_rules | `(tactic| walk_at "hpt") => `(tactic| first
  | with_reducible assumption
  | ((with_reducible apply L2.SqT.of); walk_at "hp"))
local macro_rules | `(tactic| walk_at "hpq") => `(tactic| first
  | with_reducible assumption
  | (apply Or.inl; walk_at "hpl")
  | (apply Or.inr; walk_at "hpt"))
local macro_rules | `(tactic| walk_at "sc") => `(tactic| first
  | with_reducible assumption
  | omega
  | decide
  | ((repeat' split) <;> omega))
local macro_rules | `(tactic| walk_at "scp") => `(tactic| (unfold L2.CPow; omega))
local macro_rules | `(tactic| walk_at "ll") => `(tactic| with_unfolding_all exact Nat.le_of_ble_eq_true rfl)
theorem wm {i j : Int} (hi : -(2 ^ 200) < i ∧ i < 2 ^ 200) (hj : -(2 ^ 200) < j ∧ j < 2 ^ 200) : L2.CMulW i j :=
  L2.wide_mul (a := 200) (b := 200) (by omega) (by omega) (by decide) (by decide) (by decide)
theorem wd {i j : Int} (h : 0 < j) (hj : j < 2 ^ 200) : L2.CDivW i j :=
  L2.wide_div (b := 200) h (by omega) (by decide) (by decide)
local macro_rules | `(tactic| walk_at "scm") => `(tactic| exact wm ⟨by walk_at "sc", by walk_at "sc"⟩ ⟨by walk_at "sc", by walk_at "sc"⟩)
local macro_rules | `(tactic| walk_at "scd") => `(tactic| exact wd (by walk_at "sc") (by walk_at "sc"))
local macro_rules | `(tactic| walk_at "clsv") => `(tactic| first | exact L2.ClsV.ty _ | exact L2.ClsV.own _)
local macro_rules | `(tactic| walk_at "kit") => `(tactic| first | with_reducible exact Rd.kit_int_int | with_reducible exact Rd.kit_int_bool | with_reducible exact Rd.kit_bool_bool | with_reducible exact Rd.kit_str_str | with_reducible exact Rd.kit_bool_int | with_reducible exact Rd.kit_str_int | with_reducible exact Rd.kit_none_int | with_reducible exact Rd.kit_tuple_int | with_reducible exact Rd.kit_list_int | with_reducible exact Rd.kit_dict_int | with_reducible exact Rd.kit_str_bool | with_reducible exact Rd.kit_int_str | with_reducible assumption)
local macro_rules | `(tactic| walk_at "nf") => `(tactic| with_reducible assumption)
local macro_rules | `(tactic| walk_at "tyx") => `(tactic| first | exact L2.TyX.base (L2.TyOf.int _) | exact L2.TyX.base (L2.TyOf.bl _) | exact L2.TyX.base L2.TyOf.non | exact L2.TyX.base (L2.TyOf.str _) | ((with_reducible apply Rd.ty_tup); walk_at "hp") | ((with_reducible apply Rd.ty_lst); walk_at "hp"))
local macro_rules | `(tactic| walk_at "frm") => `(tactic| first | (intro b o hb; walk_at "hp") | (intro b o hb hn; walk_at "hp"))
local macro_rules | `(tactic| walk_at "nn") => `(tactic| first
  | with_reducible assumption
  | exact updFree (by with_reducible assumption)
  | exact updFree (updFree (by with_reducible assumption))
  | exact updFree (updFree (updFree (by with_reducible assumption)))
  | exact updFree (updFree (updFree (updFree (by with_reducible assumption))))
  | exact updFree (updFree (updFree (updFree (updFree (by with_reducible assumption)))))
  | exact updFree (updFree (updFree (updFree (updFree (updFree (by with_reducible assumption))))))
  | exact updFree (updFree (updFree (updFree (updFree (updFree (updFree (by with_reducible assumption)))))))
  | exact updFree (updFree (updFree (updFree (updFree (updFree (updFree (updFree (by with_reducible assumption))))))))
  | exact updFree (updFree (updFree (updFree (updFree (updFree (updFree (updFree (updFree (by with_reducible assumption)))))))))
  | exact updFree (updFree (updFree (updFree (updFree (updFree (updFree (updFree (updFree (updFree (by with_reducible assumption))))))))))
  | exact updFree (updFree (updFree (updFree (updFree (updFree (updFree (updFree (updFree (updFree (updFree (by with_reducible assumption)))))))))))
  | exact updFree (updFree (updFree (updFree (updFree (updFree (updFree (updFree (updFree (updFree (updFree (updFree (by with_reducible assumption))))))))))))
  | exact updFree (updFree (updFree (updFree (updFree (updFree (updFree (updFree (updFree (updFree (updFree (updFree (updFree (by with_reducible assumption)))))))))))))
  | exact updFree (updFree (updFree (updFree (updFree (updFree (updFree (updFree (updFree (updFree (updFree (updFree (updFree (updFree (by with_reducible assumption))))))))))))))
  | exact updFree (updFree (updFree (updFree (updFree (updFree (updFree (updFree (updFree (updFree (updFree (updFree (updFree (updFree (updFree (by with_reducible assumption)))))))))))))))
  | exact updFree (updFree (updFree (updFree (updFree (updFree (updFree (updFree (updFree (updFree (updFree (updFree (updFree (updFree (updFree (updFree (by with_reducible assumption))))))))))))))))
  | exact updFree (updFree (updFree (updFree (updFree (updFree (updFree (updFree (updFree (updFree (updFree (updFree (updFree (updFree (updFree (updFree (updFree (by with_reducible assumption)))))))))))))))))
  | exact updFree (updFree (updFree (updFree (updFree (updFree (updFree (updFree (updFree (updFree (updFree (updFree (updFree (updFree (updFree (updFree (updFree (updFree (by with_reducible assumption))))))))))))))))))
  | ((with_reducible apply Sfree); (· with_reducible assumption); (· walk_at "nn")))
local macro_rules | `(tactic| walk_at "em") => `(tactic| first | rfl | (simp only [Int.emod_add_emod, Int.emod_sub_emod, Int.sub_emod_emod, Int.emod_emod]; first | done | rfl | (congr 1; omega)))
local macro_rules | `(tactic| walk_at "dp") => `(tactic| first | ((with_reducible apply Rd.dp_nil); walk_at "hpl") | ((with_reducible apply Rd.dp_listI); walk_at "hpl") | ((with_reducible apply Rd.dp_pair); walk_at "hpt") | ((with_reducible apply L2.Dp.lst); (· walk_at "hpl"); (· walk_at "dpa")) | ((with_reducible apply L2.Dp.tup); (· walk_at "hpt"); (· walk_at "dpa")))
local macro_rules | `(tactic| walk_at "dpt") => `(tactic| first | ((with_reducible apply Rd.dp_pair); (· walk_at "hpt")) | ((with_reducible apply L2.Dp.tup); (· walk_at "hpt"); (· walk_at "dpa")) | fail "dpt")
local macro_rules | `(tactic| walk_at "dpa") => `(tactic| first | with_reducible exact L2.DpAll.nil | ((with_reducible apply L2.DpAll.cons); (· walk_at "dp1"); (· walk_at "dpa")))
local macro_rules | `(tactic| walk_at "dp1") => `(tactic| first | with_reducible exact L2.Dp.int _ | with_reducible exact L2.Dp.bl _ | with_reducible exact L2.Dp.str _ | with_reducible exact L2.Dp.non | walk_at "dp")
local macro_rules | `(tactic| walk_at "shp") => `(tactic| first | with_reducible exact Rd.shaped_pair _ _ | with_reducible exact Rd.shaped_listI _ | with_reducible exact Rd.shaped_nil | (simp only [PySem.SeqAt.shaped, PySem.PyData.canLay0, PySem.PyData.canLayAll0, PySem.PyData.depth, PySem.PyData.depthAll]; rfl))
local macro_rules | `(tactic| walk_at "ty0") => `(tactic| exact Own.ty_int)
local macro_rules | `(tactic| walk_at "sfl") => `(tactic| first | with_unfolding_all exact Nat.le_of_ble_eq_true rfl | ((refine Rd.lput ?_); (repeat refine Rd.lputs ?_); with_unfolding_all exact Nat.le_of_ble_eq_true rfl))
local macro_rules | `(tactic| walk_at "ixn") => `(tactic| first | with_unfolding_all rfl | decide)
local macro_rules | `(tactic| walk_at "bT") => `(tactic| first | (simp only [PySem.PyData.eqv, PySem.PyData.eqvAll, beq_self_eq_true, Bool.and_self]; done) | (exact decide_eq_true rfl) | (simp only [L2.V.int.injEq, L2.V.bl.injEq, decide_eq_true_eq]; omega) | with_unfolding_all rfl | with_reducible assumption | exact decide_eq_true (by walk_at "sc"))
local macro_rules | `(tactic| walk_at "bF") => `(tactic| first | (simp only [← Int.sub_emod, decide_true, Bool.not_true]; done) | (simp only [L2.V.int.injEq, Int.emod_eq_emod_iff_emod_sub_eq_zero, eq_self, decide_true, Bool.true_and, Bool.not_true]; done) | (simp only [Rd.eqv_pairV, Rd.eqv_listI, Rd.eqv_nil, Bool.and_self, Bool.not_true, decide_true]; done) | with_unfolding_all rfl | with_reducible assumption | exact decide_eq_false (by walk_at "sc") | (simp only [L2.V.int.injEq, L2.V.bl.injEq, decide_eq_false_iff_not, Bool.not_eq_false', Bool.not_eq_eq_eq_not, Bool.not_false, decide_eq_true_eq]; omega) | (simp only [L2.V.int.injEq, Bool.and_eq_false_iff, decide_eq_false_iff_not]; first | omega | exact Or.inl (by omega)))

/-! ## the law's source of numbers: two ints in a list -/
section
open PySem L2
/-- what stands in the list -/
def SrcO (o : HO) : Prop := ∃ x y : Int, o = .lst [.int x, .int y] ∧ 0 ≤ x ∧ 0 ≤ y ∧ y < 2147483647
/-- a draw -/
abbrev spDraw : Sp := fun vs H Q _ => ∃ (a : Addr) (o : HO) (m : Int), vs = [.ref a, .int m] ∧ H a = some o ∧ SrcO o ∧ 0 < m ∧ m < 2 ^ 190 ∧
  ∀ (d : Int) (o' : HO), 0 ≤ d → d < m → SrcO o' → Q (.int d) (upd H a o')
/-- a fresh source -/
abbrev spSource (K : PySem.W.Frag) : Sp := fun vs H Q _ => ∃ (a : Addr) (ns : List Int) (t : Int), vs = [.ref a, .int t] ∧ SqL K H a (ns.map V.int) ∧ 0 ≤ t ∧ t < 1000000 ∧
  ∀ (p : Addr) (o : HO), H p = none → SrcO o → Q (.ref p) (upd H p o)
theorem sq_nonneg {y : Int} (h : 0 ≤ y) : 0 ≤ y * y := Int.mul_nonneg h h
theorem atI_map {ns : List Int} {t : Int} (h0 : 0 ≤ t) (h : t < (ns.length : Int)) : ∃ z : Int, atI (ns.map V.int) t = some (.int z) := by
  obtain ⟨j, rfl⟩ : ∃ j : Nat, t = (j : Int) := ⟨t.toNat, by omega⟩
  have hj : j < ns.length := by omega
  exact ⟨ns[j], atI_nat (by rw [List.getElem?_map, List.getElem?_eq_getElem hj]; rfl)⟩
/-- an item of a list of ints at a drawn place: what all its items keep -/
theorem pickI {ns : List Int} {P : Int → Prop} (hP : ∀ n ∈ ns, P n) {d : Int} (h0 : 0 ≤ d) (h : d < (ns.length : Int)) : ∃ n : Int, atI (ns.map V.int) d = some (.int n) ∧ P n := by
  obtain ⟨j, rfl⟩ : ∃ j : Nat, d = (j : Int) := ⟨d.toNat, by omega⟩
  have hj : j < ns.length := by omega
  exact ⟨ns[j], atI_nat (by rw [List.getElem?_map, List.getElem?_eq_getElem hj]; rfl), hP _ (List.getElem_mem hj)⟩
end

namespace Pk16
open PySem L2
def top (i : Nat) : Stmt := PySem.Challenge.pw_ringindexes_k16_queues_in_order.main.body.getD i (.Pass ⟨0, 0, 0, 0⟩)
abbrev s_Queueu__initu_ : Stmt := inClass (top 2) 0
abbrev s_Queue_put : Stmt := inClass (top 2) 1
abbrev s_Queue_take : Stmt := inClass (top 2) 2
abbrev s_Queue_oldest : Stmt := inClass (top 2) 3
abbrev s_Queueu__lenu_ : Stmt := inClass (top 2) 4
abbrev s_Queueu__boolu_ : Stmt := inClass (top 2) 5
abbrev s_Queueu__containsu_ : Stmt := inClass (top 2) 6
abbrev s_l_source : Stmt := top 4
abbrev s_l_draw : Stmt := top 5
abbrev s_l_look : Stmt := top 7
abbrev s_law : Stmt := top 8
theorem q_values_oldest : ¬ (("_values" : Str) = "oldest") := by decide +kernel
theorem q_values_put : ¬ (("_values" : Str) = "put") := by decide +kernel
theorem q_values_take : ¬ (("_values" : Str) = "take") := by decide +kernel
theorem q_oldest_values : ¬ (("oldest" : Str) = "_values") := by decide +kernel
theorem q_oldest_put : ¬ (("oldest" : Str) = "put") := by decide +kernel
theorem q_oldest_take : ¬ (("oldest" : Str) = "take") := by decide +kernel
theorem q_put_values : ¬ (("put" : Str) = "_values") := by decide +kernel
theorem q_put_oldest : ¬ (("put" : Str) = "oldest") := by decide +kernel
theorem q_put_take : ¬ (("put" : Str) = "take") := by decide +kernel
theorem q_take_values : ¬ (("take" : Str) = "_values") := by decide +kernel
theorem q_take_oldest : ¬ (("take" : Str) = "oldest") := by decide +kernel
theorem q_take_put : ¬ (("take" : Str) = "put") := by decide +kernel
local macro_rules | `(tactic| walk_at "lk") => `(tactic| first | with_unfolding_all rfl | (simp only [List.lookup, L2.putF, beq_iff_eq, beq_self_eq_true, q_values_oldest, (beq_eq_false_iff_ne.mpr q_values_oldest), q_values_put, (beq_eq_false_iff_ne.mpr q_values_put), q_values_take, (beq_eq_false_iff_ne.mpr q_values_take), q_oldest_values, (beq_eq_false_iff_ne.mpr q_oldest_values), q_oldest_put, (beq_eq_false_iff_ne.mpr q_oldest_put), q_oldest_take, (beq_eq_false_iff_ne.mpr q_oldest_take), q_put_values, (beq_eq_false_iff_ne.mpr q_put_values), q_put_oldest, (beq_eq_false_iff_ne.mpr q_put_oldest), q_put_take, (beq_eq_false_iff_ne.mpr q_put_take), q_take_values, (beq_eq_false_iff_ne.mpr q_take_values), q_take_oldest, (beq_eq_false_iff_ne.mpr q_take_oldest), q_take_put, (beq_eq_false_iff_ne.mpr q_take_put)]; first | done | rfl))
structure Adr where
  f_Queueu__initu_ : Addr
  d_Queueu__initu_ : FuncData
  f_Queue_put : Addr
  d_Queue_put : FuncData
  f_Queue_take : Addr
  d_Queue_take : FuncData
  f_Queue_oldest : Addr
  d_Queue_oldest : FuncData
  f_Queueu__lenu_ : Addr
  d_Queueu__lenu_ : FuncData
  f_Queueu__boolu_ : Addr
  d_Queueu__boolu_ : FuncData
  f_Queueu__containsu_ : Addr
  d_Queueu__containsu_ : FuncData
  f_l_source : Addr
  d_l_source : FuncData
  f_l_draw : Addr
  d_l_draw : FuncData
  f_l_look : Addr
  d_l_look : FuncData
  f_law : Addr
  d_law : FuncData
  c_Queue : Addr
structure Txt (K : PySem.W.Frag) (mg : Str → Option Value) (A : Adr) : Prop where
  n_len : mg "len" = none
  n_int : mg "int" = none
  n_abs : mg "abs" = none
  n_range : mg "range" = none
  n_max : mg "max" = none
  n_min : mg "min" = none
  n_bool : mg "bool" = none
  m_deque : mg "deque" = some (.type "collections.deque")
  m_Queue : mg "Queue" = some (.ref A.c_Queue)
  k_Queue : Cls K A.c_Queue
  n_Queue_values : NoAttr K A.c_Queue "_values"
  K_Queue : Mk K A.c_Queue A.f_Queueu__initu_
  F_Queueu__initu_ : Fun K "__init__" "Queue.__init__" s_Queueu__initu_ A.f_Queueu__initu_ A.d_Queueu__initu_
  b_Queueu__initu_ : Binds K A.d_Queueu__initu_ ["self"] []
  M_Queue_put : Meth K A.c_Queue "put" A.f_Queue_put
  F_Queue_put : Fun K "put" "Queue.put" s_Queue_put A.f_Queue_put A.d_Queue_put
  b_Queue_put : Binds K A.d_Queue_put ["self", "value"] []
  M_Queue_take : Meth K A.c_Queue "take" A.f_Queue_take
  F_Queue_take : Fun K "take" "Queue.take" s_Queue_take A.f_Queue_take A.d_Queue_take
  b_Queue_take : Binds K A.d_Queue_take ["self"] []
  M_Queue_oldest : Meth K A.c_Queue "oldest" A.f_Queue_oldest
  F_Queue_oldest : Fun K "oldest" "Queue.oldest" s_Queue_oldest A.f_Queue_oldest A.d_Queue_oldest
  b_Queue_oldest : Binds K A.d_Queue_oldest ["self"] []
  F_Queueu__lenu_ : Fun K "__len__" "Queue.__len__" s_Queueu__lenu_ A.f_Queueu__lenu_ A.d_Queueu__lenu_
  b_Queueu__lenu_ : Binds K A.d_Queueu__lenu_ ["self"] []
  F_Queueu__boolu_ : Fun K "__bool__" "Queue.__bool__" s_Queueu__boolu_ A.f_Queueu__boolu_ A.d_Queueu__boolu_
  b_Queueu__boolu_ : Binds K A.d_Queueu__boolu_ ["self"] []
  F_Queueu__containsu_ : Fun K "__contains__" "Queue.__contains__" s_Queueu__containsu_ A.f_Queueu__containsu_ A.d_Queueu__containsu_
  b_Queueu__containsu_ : Binds K A.d_Queueu__containsu_ ["self", "x"] []
  m_l_source : mg "_law_source" = some (.ref A.f_l_source)
  F_l_source : Fun K "_law_source" "_law_source" s_l_source A.f_l_source A.d_l_source
  b_l_source : Binds K A.d_l_source ["_law_script", "_law_turn"] []
  m_l_draw : mg "_law_draw" = some (.ref A.f_l_draw)
  F_l_draw : Fun K "_law_draw" "_law_draw" s_l_draw A.f_l_draw A.d_l_draw
  b_l_draw : Binds K A.d_l_draw ["_law_source_here", "_law_amount"] []
  m_l_look : mg "_law_look" = some (.ref A.f_l_look)
  F_l_look : Fun K "_law_look" "_law_look" s_l_look A.f_l_look A.d_l_look
  b_l_look : Binds K A.d_l_look ["_law_queue", "_law_line", "_law_value"] []
  m_law : mg "law" = some (.ref A.f_law)
  F_law : Fun K "law" "law" s_law A.f_law A.d_law
  b_law : Binds K A.d_law ["_law_script"] []
  O_Queueu__lenu__1 : Own.Sp1 K A.c_Queue "__len__" A.f_Queueu__lenu_
  O_Queueu__boolu__1 : Own.Sp1 K A.c_Queue "__bool__" A.f_Queueu__boolu_
  O_Queueu__containsu__1 : Own.Sp1 K A.c_Queue "__contains__" A.f_Queueu__containsu_

theorem SfreeR {H H' : Hp} {b : Nat} (h : H' b = none) (f : L2.Same H H') : H b = none := Sfree f h
local macro_rules | `(tactic| walk_at "nn") => `(tactic| first | ((with_reducible apply SfreeR); (· with_reducible assumption); (· walk_at "frm")) | fail "nn")
theorem SqLR {K : PySem.W.Frag} {H H' : Hp} {a : Addr} {xs : List V} (h : SqL K H a xs) (f : L2.Same H H') : SqL K H' a xs := Same.seq f h
local macro_rules | `(tactic| walk_at "hpl") => `(tactic| first | with_reducible assumption | ((with_reducible apply SqLR); (· with_reducible assumption); (· walk_at "frm")) | fail "hpl")
/-- a queue's fields -/
def fQ (d : Addr) : List (Str × V) := [("_values", .ref d)]
theorem fQ_v (d : Addr) : (fQ d).lookup ("_values" : Str) = some (V.ref d) := by unfold fQ; walk_at "lk"
theorem fQ_p (d : Addr) : (fQ d).lookup ("put" : Str) = none := by unfold fQ; simp only [List.lookup, beq_eq_false_iff_ne.mpr q_put_values]
theorem fQ_t (d : Addr) : (fQ d).lookup ("take" : Str) = none := by unfold fQ; simp only [List.lookup, beq_eq_false_iff_ne.mpr q_take_values]
theorem fQ_o (d : Addr) : (fQ d).lookup ("oldest" : Str) = none := by unfold fQ; simp only [List.lookup, beq_eq_false_iff_ne.mpr q_oldest_values]
local macro_rules | `(tactic| walk_at "lk") => `(tactic| first | exact fQ_v _ | exact fQ_p _ | exact fQ_t _ | exact fQ_o _)
/-- the oldest one, or none -/
def hdV : List Int → V
  | [] => .non
  | n :: _ => .int n
local macro_rules | `(tactic| walk_at "sz") => `(tactic| first | exact L2.small1000 (by (try simp only [List.length_map, List.length_cons, List.length_append, List.length_nil] at *); omega) | exact Nat.le_of_lt (L2.small1000 (by (try simp only [List.length_map, List.length_cons, List.length_append, List.length_nil] at *); omega)))
local macro_rules | `(tactic| walk_at "six") => `(tactic| (simp [PySem.seqIndex?]))
local macro_rules | `(tactic| walk_at "flt") => `(tactic| exact Rd.flat_ints _)
local macro_rules | `(tactic| walk_at "bF") => `(tactic| first | (simp; done) | (simp; omega) | (simp [hdV]; done) | (simp [PySem.PyData.eqv, PySem.PyData.eqvAll]; done) | (simp [PySem.PyData.eqv, PySem.PyData.eqvAll]; omega))
local macro_rules | `(tactic| walk_at "bT") => `(tactic| first | exact Rd.inEq _ _ | (simp; done))

section
variable {P : Program} {w : World} {K : PySem.W.Frag} {mg : Str → Option Value} {base : Heap} {A : Adr}
/-! Queue.__init__ -/
theorem sc_Queueu__initu_ : FnScope ["self"] ["self"] (defScope s_Queueu__initu_) := ⟨rfl, rfl, rfl, by decide +kernel, rfl, by decide +kernel, by decide +kernel⟩
abbrev sp_Queueu__initu_ (K : PySem.W.Frag) (A : Adr) : Sp := fun vs H Q _ => ∃ (p dx : Addr), vs = [.ref p] ∧ H p = some (.ins A.c_Queue dx []) ∧ ∀ (d : Addr) (H' : Hp), Frm p H H' → H d = none → H' p = some (.ins A.c_Queue dx (fQ d)) → H' d = some (DqO d []) → Q .non H'
theorem ok_Queueu__initu_ (T : Txt K mg A) : FnOk P w K mg base CX0 1 A.f_Queueu__initu_ A.d_Queueu__initu_ ["self"] (sp_Queueu__initu_ K A) := by
  refine T.F_Queueu__initu_.ok sc_Queueu__initu_ (fun vs H Q E h => ?_) (fun cdv Ar outer s H vs Q E hr h => ?_)
  · obtain ⟨p, dx, rfl, hp, k⟩ := h
    rfl
  · obtain ⟨p, dx, rfl, hp, k⟩ := h
    have hu := hu_of hr
    have t_k_Queue := T.k_Queue
    refine ⟨_, (pss_one (ps_fld (pv 0) (pe_callGT0 call_dq (by rfl) T.m_deque) rfl)), ?_⟩
    try dsimp only [L2.cxOf, L2.Cx.nox, L2.Cx.wish]
    with_reducible refine Rd.sfld (Rd.cB (Rd.nil ?_))
    refine ⟨rfl, fun dq1 ndq1 => ?_⟩
    with_reducible refine Rd.var (by walk_at "vr") (⟨_, _, _, _, rfl, (by walk_at "hp"), T.k_Queue, T.n_Queue_values, (by walk_at "sfl"), ?_⟩)
    exact k _ _ (by walk_at "frm") ndq1 L2.upd_same (by walk_at "hp")
/-! Queue.put -/
theorem sc_Queue_put : FnScope ["self", "value"] ["self", "value"] (defScope s_Queue_put) := ⟨rfl, rfl, rfl, by decide +kernel, rfl, by decide +kernel, by decide +kernel⟩
abbrev sp_Queue_put (K : PySem.W.Frag) (A : Adr) : Sp := fun vs H Q _ => ∃ (p dx d : Addr) (ns : List Int) (i : Int), vs = [.ref p, .int i] ∧ (H p = some (.ins A.c_Queue dx (fQ d)) ∧ H d = some (DqO d (ns.map V.int)) ∧ ns.length ≤ 100) ∧ Q .non (upd H d (DqO d ((ns ++ [i]).map V.int)))
theorem ok_Queue_put (T : Txt K mg A) : FnOk P w K mg base CX0 1 A.f_Queue_put A.d_Queue_put ["self", "value"] (sp_Queue_put K A) := by
  refine T.F_Queue_put.ok sc_Queue_put (fun vs H Q E h => ?_) (fun cdv Ar outer s H vs Q E hr h => ?_)
  · obtain ⟨p, dx, d, ns, i, rfl, ⟨hp, hd, hn⟩, k⟩ := h
    rfl
  · obtain ⟨p, dx, d, ns, i, rfl, ⟨hp, hd, hn⟩, k⟩ := h
    have hu := hu_of hr
    have t_k_Queue := T.k_Queue
    refine ⟨_, (pss_one (ps_expr (pe_dm PySem.F.dq_slot_append PySem.F.dq_type_append mt_dqAppend (pe_fld (pv 0) rfl) (pa_cons (pv 1) pa_nil)))), ?_⟩
    try dsimp only [L2.cxOf, L2.Cx.nox, L2.Cx.wish]
    with_reducible refine Rd.drop ?_
    unfold tDM
    with_reducible refine Rd.fld (Rd.var (by walk_at "vr") (⟨_, _, _, _, _, rfl, (by walk_at "hp"), T.k_Queue, T.n_Queue_values, (by walk_at "lk"), (⟨⟨_, _, rfl, (by walk_at "hp")⟩, (Rd.cons (Rd.var (by walk_at "vr") (Rd.nil ?_)))⟩)⟩))
    refine ⟨_, _, _, rfl, rfl, (by walk_at "hp"), (by walk_at "sz"), ?_⟩
    rw [Rd.mapApp]
    exact k
/-! Queue.take -/
theorem sc_Queue_take : FnScope ["self"] ["self"] (defScope s_Queue_take) := ⟨rfl, rfl, rfl, by decide +kernel, rfl, by decide +kernel, by decide +kernel⟩
abbrev sp_Queue_take (K : PySem.W.Frag) (A : Adr) : Sp := fun vs H Q _ => ∃ (p dx d : Addr) (ns : List Int), vs = [.ref p] ∧ (H p = some (.ins A.c_Queue dx (fQ d)) ∧ H d = some (DqO d (ns.map V.int)) ∧ ns.length ≤ 100) ∧ ((ns = [] ∧ Q .non H) ∨ ∃ (n : Int) (ms : List Int), ns = n :: ms ∧ Q (.int n) (upd H d (DqO d (ms.map V.int))))
theorem ok_Queue_take (T : Txt K mg A) : FnOk P w K mg base CX0 1 A.f_Queue_take A.d_Queue_take ["self"] (sp_Queue_take K A) := by
  refine T.F_Queue_take.ok sc_Queue_take (fun vs H Q E h => ?_) (fun cdv Ar outer s H vs Q E hr h => ?_)
  · obtain ⟨p, dx, d, ns, rfl, ⟨hp, hd, hn⟩, k⟩ := h
    rfl
  · obtain ⟨p, dx, d, ns, rfl, ⟨hp, hd, hn⟩, k⟩ := h
    have hu := hu_of hr
    have t_k_Queue := T.k_Queue
    rcases k with ⟨rfl, k⟩ | ⟨n, ms, rfl, k⟩
    · skip
      refine ⟨_, (pss_cons (ps_if (pt_cmpR op_eq (pe_callB call_len_dq (by rfl) T.n_len PySem.boot_len (pa_cons (pe_fld (pv 0) rfl) pa_nil)) pe_int (nomark _)) (pss_one (ps_ret pe_non)) pss_nil)
      (pss_one (ps_ret (pe_dm0 PySem.F.dq_slot_popleft PySem.F.dq_type_popleft mt_dqPopleft (pe_fld (pv 0) rfl))))), ?_⟩
      try dsimp only [L2.cxOf, L2.Cx.nox, L2.Cx.wish]
      with_reducible refine Rd.seq (Rd.ifS (Rd.test (Rd.op (Rd.cB (Rd.cons (Rd.fld (Rd.var (by walk_at "vr") (⟨_, _, _, _, _, rfl, (by walk_at "hp"), T.k_Queue, T.n_Queue_values, (by walk_at "lk"), (Rd.nil ?_)⟩))))))))
      refine ⟨_, _, rfl, (by walk_at "hp"), (by walk_at "sz"), ?_⟩
      with_reducible refine Rd.c (Rd.eqS (by walk_at "vr") (Rd.bl (Rd.iteT (by walk_at "bT") (Rd.ret (Rd.c ?_)))))
      exact k
    · have hd' : H d = some (DqO d (V.int n :: ms.map V.int)) := hd
      refine ⟨_, (pss_cons (ps_if (pt_cmpR op_eq (pe_callB call_len_dq (by rfl) T.n_len PySem.boot_len (pa_cons (pe_fld (pv 0) rfl) pa_nil)) pe_int (nomark _)) (pss_one (ps_ret pe_non)) pss_nil)
      (pss_one (ps_ret (pe_dm0 PySem.F.dq_slot_popleft PySem.F.dq_type_popleft mt_dqPopleft (pe_fld (pv 0) rfl))))), ?_⟩
      try dsimp only [L2.cxOf, L2.Cx.nox, L2.Cx.wish]
      with_reducible refine Rd.seq (Rd.ifS (Rd.test (Rd.op (Rd.cB (Rd.cons (Rd.fld (Rd.var (by walk_at "vr") (⟨_, _, _, _, _, rfl, (by walk_at "hp"), T.k_Queue, T.n_Queue_values, (by walk_at "lk"), (Rd.nil ?_)⟩))))))))
      refine ⟨_, _, rfl, (by walk_at "hp"), (by walk_at "sz"), ?_⟩
      with_reducible refine Rd.c (Rd.eqS (by walk_at "vr") (Rd.bl (Rd.iteF (by walk_at "bF") (Rd.next (Rd.ret ?_)))))
      unfold tDM0
      with_reducible refine Rd.fld (Rd.var (by walk_at "vr") (⟨_, _, _, _, _, rfl, (by walk_at "hp"), T.k_Queue, T.n_Queue_values, (by walk_at "lk"), (⟨⟨_, _, rfl, (by walk_at "hp")⟩, ?_⟩)⟩))
      refine ⟨_, _, _, rfl, rfl, (by walk_at "hp"), (by walk_at "sz"), ?_⟩
      exact k
/-! Queue.oldest -/
theorem sc_Queue_oldest : FnScope ["self"] ["self"] (defScope s_Queue_oldest) := ⟨rfl, rfl, rfl, by decide +kernel, rfl, by decide +kernel, by decide +kernel⟩
abbrev sp_Queue_oldest (K : PySem.W.Frag) (A : Adr) : Sp := fun vs H Q _ => ∃ (p dx d : Addr) (ns : List Int), vs = [.ref p] ∧ (H p = some (.ins A.c_Queue dx (fQ d)) ∧ H d = some (DqO d (ns.map V.int)) ∧ ns.length ≤ 100) ∧ Q (hdV ns) H
theorem ok_Queue_oldest (T : Txt K mg A) : FnOk P w K mg base CX0 1 A.f_Queue_oldest A.d_Queue_oldest ["self"] (sp_Queue_oldest K A) := by
  refine T.F_Queue_oldest.ok sc_Queue_oldest (fun vs H Q E h => ?_) (fun cdv Ar outer s H vs Q E hr h => ?_)
  · obtain ⟨p, dx, d, ns, rfl, ⟨hp, hd, hn⟩, k⟩ := h
    rfl
  · obtain ⟨p, dx, d, ns, rfl, ⟨hp, hd, hn⟩, k⟩ := h
    have hu := hu_of hr
    have t_k_Queue := T.k_Queue
    rcases ns with _ | ⟨n, ms⟩
    · skip
      refine ⟨_, (pss_cons (ps_if (pt_cmpR op_eq (pe_callB call_len_dq (by rfl) T.n_len PySem.boot_len (pa_cons (pe_fld (pv 0) rfl) pa_nil)) pe_int (nomark _)) (pss_one (ps_ret pe_non)) pss_nil)
      (pss_one (ps_ret (pe_ix ix_dq0 (pe_fld (pv 0) rfl) pe_int (fun _ _ => rfl))))), ?_⟩
      try dsimp only [L2.cxOf, L2.Cx.nox, L2.Cx.wish]
      with_reducible refine Rd.seq (Rd.ifS (Rd.test (Rd.op (Rd.cB (Rd.cons (Rd.fld (Rd.var (by walk_at "vr") (⟨_, _, _, _, _, rfl, (by walk_at "hp"), T.k_Queue, T.n_Queue_values, (by walk_at "lk"), (Rd.nil ?_)⟩))))))))
      refine ⟨_, _, rfl, (by walk_at "hp"), (by walk_at "sz"), ?_⟩
      with_reducible refine Rd.c (Rd.eqS (by walk_at "vr") (Rd.bl (Rd.iteT (by walk_at "bT") (Rd.ret (Rd.c ?_)))))
      exact k
    · have hd' : H d = some (DqO d (V.int n :: ms.map V.int)) := hd
      refine ⟨_, (pss_cons (ps_if (pt_cmpR op_eq (pe_callB call_len_dq (by rfl) T.n_len PySem.boot_len (pa_cons (pe_fld (pv 0) rfl) pa_nil)) pe_int (nomark _)) (pss_one (ps_ret pe_non)) pss_nil)
      (pss_one (ps_ret (pe_ix ix_dq0 (pe_fld (pv 0) rfl) pe_int (fun _ _ => rfl))))), ?_⟩
      try dsimp only [L2.cxOf, L2.Cx.nox, L2.Cx.wish]
      with_reducible refine Rd.seq (Rd.ifS (Rd.test (Rd.op (Rd.cB (Rd.cons (Rd.fld (Rd.var (by walk_at "vr") (⟨_, _, _, _, _, rfl, (by walk_at "hp"), T.k_Queue, T.n_Queue_values, (by walk_at "lk"), (Rd.nil ?_)⟩))))))))
      refine ⟨_, _, rfl, (by walk_at "hp"), (by walk_at "sz"), ?_⟩
      with_reducible refine Rd.c (Rd.eqS (by walk_at "vr") (Rd.bl (Rd.iteF (by walk_at "bF") (Rd.next (Rd.ret (Rd.op (Rd.fld (Rd.var (by walk_at "vr") (⟨_, _, _, _, _, rfl, (by walk_at "hp"), T.k_Queue, T.n_Queue_values, (by walk_at "lk"), (Rd.c ?_)⟩)))))))))
      refine ⟨_, _, _, rfl, rfl, (by walk_at "hp"), (by walk_at "sz"), ?_⟩
      exact k
/-! Queue.__len__ -/
theorem sc_Queueu__lenu_ : FnScope ["self"] ["self"] (defScope s_Queueu__lenu_) := ⟨rfl, rfl, rfl, by decide +kernel, rfl, by decide +kernel, by decide +kernel⟩
abbrev sp_Queueu__lenu_ (K : PySem.W.Frag) (A : Adr) : Sp := fun vs H Q _ => ∃ (p dx d : Addr) (ns : List Int), vs = [.ref p] ∧ (H p = some (.ins A.c_Queue dx (fQ d)) ∧ H d = some (DqO d (ns.map V.int)) ∧ ns.length ≤ 100) ∧ Q (.int ns.length) H
theorem ok_Queueu__lenu_ (T : Txt K mg A) : FnOk P w K mg base CX0 1 A.f_Queueu__lenu_ A.d_Queueu__lenu_ ["self"] (sp_Queueu__lenu_ K A) := by
  refine T.F_Queueu__lenu_.ok sc_Queueu__lenu_ (fun vs H Q E h => ?_) (fun cdv Ar outer s H vs Q E hr h => ?_)
  · obtain ⟨p, dx, d, ns, rfl, ⟨hp, hd, hn⟩, k⟩ := h
    rfl
  · obtain ⟨p, dx, d, ns, rfl, ⟨hp, hd, hn⟩, k⟩ := h
    have hu := hu_of hr
    have t_k_Queue := T.k_Queue
    refine ⟨_, (pss_one (ps_ret (pe_callB call_len_dq (by rfl) T.n_len PySem.boot_len (pa_cons (pe_fld (pv 0) rfl) pa_nil)))), ?_⟩
    try dsimp only [L2.cxOf, L2.Cx.nox, L2.Cx.wish]
    with_reducible refine Rd.ret (Rd.cB (Rd.cons (Rd.fld (Rd.var (by walk_at "vr") (⟨_, _, _, _, _, rfl, (by walk_at "hp"), T.k_Queue, T.n_Queue_values, (by walk_at "lk"), (Rd.nil ?_)⟩)))))
    refine ⟨_, _, rfl, (by walk_at "hp"), (by walk_at "sz"), ?_⟩
    rw [List.length_map]
    exact k
/-! Queue.__bool__ -/
theorem sc_Queueu__boolu_ : FnScope ["self"] ["self"] (defScope s_Queueu__boolu_) := ⟨rfl, rfl, rfl, by decide +kernel, rfl, by decide +kernel, by decide +kernel⟩
abbrev sp_Queueu__boolu_ (K : PySem.W.Frag) (A : Adr) : Sp := fun vs H Q _ => ∃ (p dx d : Addr) (ns : List Int), vs = [.ref p] ∧ (H p = some (.ins A.c_Queue dx (fQ d)) ∧ H d = some (DqO d (ns.map V.int)) ∧ ns.length ≤ 100) ∧ Q (.bl (decide ((0 : Int) < ns.length))) H
theorem ok_Queueu__boolu_ (T : Txt K mg A) : FnOk P w K mg base CX0 1 A.f_Queueu__boolu_ A.d_Queueu__boolu_ ["self"] (sp_Queueu__boolu_ K A) := by
  refine T.F_Queueu__boolu_.ok sc_Queueu__boolu_ (fun vs H Q E h => ?_) (fun cdv Ar outer s H vs Q E hr h => ?_)
  · obtain ⟨p, dx, d, ns, rfl, ⟨hp, hd, hn⟩, k⟩ := h
    rfl
  · obtain ⟨p, dx, d, ns, rfl, ⟨hp, hd, hn⟩, k⟩ := h
    have hu := hu_of hr
    have t_k_Queue := T.k_Queue
    refine ⟨_, (pss_one (ps_ret (pe_callTy call_bool1 (by rfl) T.n_bool (by decide +kernel) (pa_cons (pe_cmpR op_gt (pe_callB call_len_dq (by rfl) T.n_len PySem.boot_len (pa_cons (pe_fld (pv 0) rfl) pa_nil)) pe_int (nomark _)) pa_nil)))), ?_⟩
    try dsimp only [L2.cxOf, L2.Cx.nox, L2.Cx.wish]
    with_reducible refine Rd.ret (Rd.cB (Rd.cons (Rd.op (Rd.cB (Rd.cons (Rd.fld (Rd.var (by walk_at "vr") (⟨_, _, _, _, _, rfl, (by walk_at "hp"), T.k_Queue, T.n_Queue_values, (by walk_at "lk"), (Rd.nil ?_)⟩))))))))
    refine ⟨_, _, rfl, (by walk_at "hp"), (by walk_at "sz"), ?_⟩
    with_reducible refine Rd.c (Rd.i0 (Rd.nil ((.inr ⟨_, rfl, ?_⟩))))
    rw [List.length_map]
    exact k
/-! Queue.__contains__ -/
theorem sc_Queueu__containsu_ : FnScope ["self", "x"] ["self", "x"] (defScope s_Queueu__containsu_) := ⟨rfl, rfl, rfl, by decide +kernel, rfl, by decide +kernel, by decide +kernel⟩
abbrev sp_Queueu__containsu_ (K : PySem.W.Frag) (A : Adr) : Sp := fun vs H Q _ => ∃ (p dx d : Addr) (ns : List Int) (i : Int), vs = [.ref p, .int i] ∧ (H p = some (.ins A.c_Queue dx (fQ d)) ∧ H d = some (DqO d (ns.map V.int)) ∧ ns.length ≤ 100) ∧ Q (.bl (decide (i ∈ ns))) H
theorem ok_Queueu__containsu_ (T : Txt K mg A) : FnOk P w K mg base CX0 1 A.f_Queueu__containsu_ A.d_Queueu__containsu_ ["self", "x"] (sp_Queueu__containsu_ K A) := by
  refine T.F_Queueu__containsu_.ok sc_Queueu__containsu_ (fun vs H Q E h => ?_) (fun cdv Ar outer s H vs Q E hr h => ?_)
  · obtain ⟨p, dx, d, ns, i, rfl, ⟨hp, hd, hn⟩, k⟩ := h
    rfl
  · obtain ⟨p, dx, d, ns, i, rfl, ⟨hp, hd, hn⟩, k⟩ := h
    have hu := hu_of hr
    have t_k_Queue := T.k_Queue
    refine ⟨_, (pss_one (ps_ret (pe_cmpR op_in_dq (pv 1) (pe_fld (pv 0) rfl) (by with_unfolding_all rfl)))), ?_⟩
    try dsimp only [L2.cxOf, L2.Cx.nox, L2.Cx.wish]
    with_reducible refine Rd.ret (Rd.op (Rd.var (by walk_at "vr") (Rd.fld (Rd.var (by walk_at "vr") (⟨_, _, _, _, _, rfl, (by walk_at "hp"), T.k_Queue, T.n_Queue_values, (by walk_at "lk"), ?_⟩)))))
    refine ⟨_, _, _, rfl, rfl, (by walk_at "hp"), ?_⟩
    exact k
/-! _law_source -/
theorem sc_l_source : FnScope ["_law_script", "_law_turn", "_law_cell", "_law_number", "_law_seed"] ["_law_script", "_law_turn"] (defScope s_l_source) := ⟨rfl, rfl, rfl, by decide +kernel, rfl, by decide +kernel, by decide +kernel⟩
abbrev sp_l_source (K : PySem.W.Frag) (A : Adr) : Sp := spSource K
theorem ok_l_source (T : Txt K mg A) : FnOk P w K mg base CX0 1 A.f_l_source A.d_l_source ["_law_script", "_law_turn"] (sp_l_source K A) := by
  refine T.F_l_source.ok sc_l_source (fun vs H Q E h => ?_) (fun cdv Ar outer s H vs Q E hr h => ?_)
  · obtain ⟨a, ns, t, rfl, ha, ht, ht2, k⟩ := h
    rfl
  · obtain ⟨a, ns, t, rfl, ha, ht, ht2, k⟩ := h
    have hu := hu_of hr
    have t_k_Queue := T.k_Queue
    refine ⟨_, (pss_cons (ps_set (i := 2) sc_l_source.nd rfl (Or.inl rfl) pe_int)
      (pss_cons (ps_if (pt_cmpR op_lt (pv 1) (pe_callB call_len_seq (by rfl) T.n_len PySem.boot_len (pa_cons (pv 0) pa_nil)) (nomark _)) (pss_one (ps_set (i := 2) sc_l_source.nd rfl (Or.inl rfl) (pe_ix ix_list (pv 0) (pv 1) (fun _ _ => rfl)))) pss_nil)
      (pss_cons (ps_set (i := 3) sc_l_source.nd rfl (Or.inl rfl) (pe_callB call_abs (by rfl) T.n_abs (by decide +kernel) (pa_cons (pv 2) pa_nil)))
      (pss_cons (ps_set (i := 4) sc_l_source.nd rfl (Or.inl rfl) (pe_op op_mod (pe_callTy call_int1 (by rfl) T.n_int (by decide +kernel) (pa_cons (pe_op op_add (pe_op op_add (pe_op op_mulW (pe_op op_mod (pe_callTy call_int1 (by rfl) T.n_int (by decide +kernel) (pa_cons (pv 3) pa_nil)) pe_int) pe_int) (pe_op op_mulW pe_int (pv 1))) pe_int) pa_nil)) pe_int))
      (pss_cons (ps_if (pt_cmpR op_lt (pv 3) (pe_op op_pow pe_int pe_int) (nomark _)) (pss_one (ps_set (i := 3) sc_l_source.nd rfl (Or.inl rfl) pe_int)) pss_nil)
      (pss_one (ps_ret (pe_lst (pa_cons (pv 3) (pa_cons (pv 4) pa_nil)))))))))), ?_⟩
    try dsimp only [L2.cxOf, L2.Cx.nox, L2.Cx.wish]
    with_reducible refine Rd.seq (Rd.asg (Rd.c (Rd.name (Rd.seq (Rd.ifS (Rd.test (Rd.op (Rd.var (by walk_at "vr") (Rd.cB (Rd.cons (Rd.var (by walk_at "vr") ?_)))))))))))
    with_reducible refine Rd.nil (⟨_, _, rfl, (by walk_at "hpq"), (Rd.i0 (Rd.bl ?_))⟩)
    refine Rd.ite (fun h0 => ?_) (fun h0 => ?_)
    · try simp only [decide_eq_true_eq, Bool.not_eq_true', decide_eq_false_iff_not, Bool.not_eq_true, Bool.not_eq_eq_eq_not, Bool.not_true, Bool.not_false] at h0
      with_reducible refine Rd.asg (Rd.op (Rd.var (by walk_at "vr") (Rd.var (by walk_at "vr") ?_)))
      obtain ⟨z, hz⟩ := atI_map ht (by simpa using h0)
      refine Rd.ixL (by walk_at "hpl") hz ?_
      with_reducible refine Rd.name (Rd.seq (Rd.asg (Rd.cB (Rd.cons (Rd.var (by walk_at "vr") (Rd.nil (⟨_, rfl, (Rd.name (Rd.seq (Rd.asg (Rd.op ?_))))⟩)))))))
      with_reducible refine Rd.cB (Rd.cons (Rd.op (Rd.op (Rd.op (Rd.op (Rd.cB (Rd.cons (Rd.var (by walk_at "vr") (Rd.nil ((.inl ⟨_, rfl, (Rd.c ?_)⟩)))))))))))
      with_reducible refine Rd.iC (by walk_at "sc") (Rd.c (Rd.iC (by walk_at "scm") (Rd.op (Rd.c (Rd.var (by walk_at "vr") (Rd.iC (by walk_at "scm") (Rd.i0 (Rd.c (Rd.i0 (Rd.nil ((.inl ⟨_, rfl, ?_⟩))))))))))))
      with_reducible refine Rd.c (Rd.iC (by walk_at "sc") (Rd.name (Rd.seq (Rd.ifS (Rd.test (Rd.op (Rd.var (by walk_at "vr") (Rd.op (Rd.c (Rd.c (Rd.iC (by walk_at "scp") ?_)))))))))))
      with_reducible refine Rd.i0 (Rd.bl ?_)
      refine Rd.ite (fun h1 => ?_) (fun h1 => ?_)
      · try simp only [decide_eq_true_eq, Bool.not_eq_true', decide_eq_false_iff_not, Bool.not_eq_true, Bool.not_eq_eq_eq_not, Bool.not_true, Bool.not_false] at h1
        with_reducible refine Rd.asg (Rd.c (Rd.name (Rd.ret (Rd.lst (Rd.cons (Rd.var (by walk_at "vr") (Rd.cons (Rd.var (by walk_at "vr") (Rd.nil (Rd.laid (by walk_at "ll") ?_))))))))))
        intro p0 np0
        exact k _ _ np0 ⟨_, _, rfl, (by walk_at "sc"), (by walk_at "sc"), (by walk_at "sc")⟩
      · try simp only [decide_eq_true_eq, Bool.not_eq_true', decide_eq_false_iff_not, Bool.not_eq_true, Bool.not_eq_eq_eq_not, Bool.not_true, Bool.not_false, Int.not_lt, Int.not_le, Decidable.not_not] at h1
        with_reducible refine Rd.next (Rd.ret (Rd.lst (Rd.cons (Rd.var (by walk_at "vr") (Rd.cons (Rd.var (by walk_at "vr") (Rd.nil (Rd.laid (by walk_at "ll") ?_))))))))
        intro p0 np0
        exact k _ _ np0 ⟨_, _, rfl, (by walk_at "sc"), (by walk_at "sc"), (by walk_at "sc")⟩
    · try simp only [decide_eq_true_eq, Bool.not_eq_true', decide_eq_false_iff_not, Bool.not_eq_true, Bool.not_eq_eq_eq_not, Bool.not_true, Bool.not_false, Int.not_lt, Int.not_le, Decidable.not_not] at h0
      with_reducible refine Rd.next (Rd.seq (Rd.asg (Rd.cB (Rd.cons (Rd.var (by walk_at "vr") (Rd.nil (⟨_, rfl, (Rd.name (Rd.seq (Rd.asg (Rd.op ?_))))⟩)))))))
      with_reducible refine Rd.cB (Rd.cons (Rd.op (Rd.op (Rd.op (Rd.op (Rd.cB (Rd.cons (Rd.var (by walk_at "vr") (Rd.nil ((.inl ⟨_, rfl, (Rd.c ?_)⟩)))))))))))
      with_reducible refine Rd.iC (by walk_at "sc") (Rd.c (Rd.iC (by walk_at "scm") (Rd.op (Rd.c (Rd.var (by walk_at "vr") (Rd.iC (by walk_at "scm") (Rd.i0 (Rd.c (Rd.i0 (Rd.nil ((.inl ⟨_, rfl, ?_⟩))))))))))))
      with_reducible refine Rd.c (Rd.iC (by walk_at "sc") (Rd.name (Rd.seq (Rd.ifS (Rd.test (Rd.op (Rd.var (by walk_at "vr") (Rd.op (Rd.c (Rd.c (Rd.iC (by walk_at "scp") ?_)))))))))))
      with_reducible refine Rd.i0 (Rd.bl ?_)
      refine Rd.ite (fun h1 => ?_) (fun h1 => ?_)
      · try simp only [decide_eq_true_eq, Bool.not_eq_true', decide_eq_false_iff_not, Bool.not_eq_true, Bool.not_eq_eq_eq_not, Bool.not_true, Bool.not_false] at h1
        with_reducible refine Rd.asg (Rd.c (Rd.name (Rd.ret (Rd.lst (Rd.cons (Rd.var (by walk_at "vr") (Rd.cons (Rd.var (by walk_at "vr") (Rd.nil (Rd.laid (by walk_at "ll") ?_))))))))))
        intro p0 np0
        exact k _ _ np0 ⟨_, _, rfl, (by walk_at "sc"), (by walk_at "sc"), (by walk_at "sc")⟩
      · try simp only [decide_eq_true_eq, Bool.not_eq_true', decide_eq_false_iff_not, Bool.not_eq_true, Bool.not_eq_eq_eq_not, Bool.not_true, Bool.not_false, Int.not_lt, Int.not_le, Decidable.not_not] at h1
        with_reducible refine Rd.next (Rd.ret (Rd.lst (Rd.cons (Rd.var (by walk_at "vr") (Rd.cons (Rd.var (by walk_at "vr") (Rd.nil (Rd.laid (by walk_at "ll") ?_))))))))
        intro p0 np0
        exact k _ _ np0 ⟨_, _, rfl, (by walk_at "sc"), (by walk_at "sc"), (by walk_at "sc")⟩
/-! _law_draw -/
theorem sc_l_draw : FnScope ["_law_source_here", "_law_amount", "_law_digit", "_law_found"] ["_law_source_here", "_law_amount"] (defScope s_l_draw) := ⟨rfl, rfl, rfl, by decide +kernel, rfl, by decide +kernel, by decide +kernel⟩
abbrev sp_l_draw (K : PySem.W.Frag) (A : Adr) : Sp := spDraw
theorem ok_l_draw (T : Txt K mg A) : FnOk P w K mg base CX0 1 A.f_l_draw A.d_l_draw ["_law_source_here", "_law_amount"] (sp_l_draw K A) := by
  refine T.F_l_draw.ok sc_l_draw (fun vs H Q E h => ?_) (fun cdv Ar outer s H vs Q E hr h => ?_)
  · obtain ⟨a, o, m, rfl, ha, ho, hm, hm2, k⟩ := h
    rfl
  · obtain ⟨a, o, m, rfl, ha, ho, hm, hm2, k⟩ := h
    have hu := hu_of hr
    have t_k_Queue := T.k_Queue
    obtain ⟨x, y, rfl, hx, hy, hy2⟩ := ho
    have e1 := Int.emod_nonneg x (show m ≠ 0 by first | omega | decide)
    have e2 := Int.emod_lt_of_pos x hm
    have e3 := Int.ediv_nonneg hx (show 0 ≤ m by first | omega | decide)
    refine ⟨_, (pss_cons (ps_if (pt_cmpR op_gt (pe_ix ix_list (pv 0) pe_int (fun _ _ => rfl)) pe_int (nomark _)) (pss_cons (ps_set (i := 2) sc_l_draw.nd rfl (Or.inl rfl) (pe_op op_mod (pe_callTy call_int1 (by rfl) T.n_int (by decide +kernel) (pa_cons (pe_ix ix_list (pv 0) pe_int (fun _ _ => rfl)) pa_nil)) (pv 1)))
      (pss_cons (ps_asg (pe_op op_fdivW (pe_ix ix_list (pv 0) pe_int (fun _ _ => rfl)) (pv 1)) (pg_sub (pv 0) pe_int set_list))
      (pss_one (ps_ret (pv 2))))) pss_nil)
      (pss_cons (ps_asg (pe_op op_mod (pe_callTy call_int1 (by rfl) T.n_int (by decide +kernel) (pa_cons (pe_op op_add (pe_op op_mulW (pe_ix ix_list (pv 0) pe_int (fun _ _ => rfl)) pe_int) pe_int) pa_nil)) pe_int) (pg_sub (pv 0) pe_int set_list))
      (pss_cons (ps_set (i := 3) sc_l_draw.nd rfl (Or.inl rfl) (pe_op op_fdivW (pe_op op_mod (pe_callTy call_int1 (by rfl) T.n_int (by decide +kernel) (pa_cons (pe_op op_mulW (pe_ix ix_list (pv 0) pe_int (fun _ _ => rfl)) (pe_ix ix_list (pv 0) pe_int (fun _ _ => rfl))) pa_nil)) pe_int) pe_int))
      (pss_cons (ps_if (pt_cmpR op_gt (pv 1) (pe_op op_pow pe_int pe_int) (nomark _)) (pss_cons (ps_asg (pe_op op_mod (pe_callTy call_int1 (by rfl) T.n_int (by decide +kernel) (pa_cons (pe_op op_add (pe_op op_mulW (pe_ix ix_list (pv 0) pe_int (fun _ _ => rfl)) pe_int) pe_int) pa_nil)) pe_int) (pg_sub (pv 0) pe_int set_list))
      (pss_one (ps_set (i := 3) sc_l_draw.nd rfl (Or.inl rfl) (pe_op op_add (pe_op op_mulW (pv 3) pe_int) (pe_op op_fdivW (pe_op op_mod (pe_callTy call_int1 (by rfl) T.n_int (by decide +kernel) (pa_cons (pe_op op_mulW (pe_ix ix_list (pv 0) pe_int (fun _ _ => rfl)) (pe_ix ix_list (pv 0) pe_int (fun _ _ => rfl))) pa_nil)) pe_int) pe_int))))) pss_nil)
      (pss_one (ps_ret (pe_op op_mod (pe_callTy call_int1 (by rfl) T.n_int (by decide +kernel) (pa_cons (pv 3) pa_nil)) (pv 1)))))))), ?_⟩
    try dsimp only [L2.cxOf, L2.Cx.nox, L2.Cx.wish]
    with_reducible refine Rd.seq (Rd.ifS (Rd.test (Rd.op (Rd.op (Rd.var (by walk_at "vr") (Rd.c (Rd.ixL (by walk_at "hpl") (by walk_at "vr") (Rd.c (Rd.i0 (Rd.bl ?_))))))))))
    refine Rd.ite (fun h0 => ?_) (fun h0 => ?_)
    · try simp only [decide_eq_true_eq, Bool.not_eq_true', decide_eq_false_iff_not, Bool.not_eq_true, Bool.not_eq_eq_eq_not, Bool.not_true, Bool.not_false] at h0
      with_reducible refine Rd.seq (Rd.asg (Rd.op (Rd.cB (Rd.cons (Rd.op (Rd.var (by walk_at "vr") (Rd.c (Rd.ixL (by walk_at "hpl") (by walk_at "vr") (Rd.nil ((.inl ⟨_, rfl, (Rd.var (by walk_at "vr") ?_)⟩)))))))))))
      with_reducible refine Rd.iC (by walk_at "sc") (Rd.name (Rd.seq (Rd.asg (Rd.op (Rd.op (Rd.var (by walk_at "vr") (Rd.c (Rd.ixL (by walk_at "hpl") (by walk_at "vr") (Rd.var (by walk_at "vr") (Rd.iC (by walk_at "scd") (Rd.sub ?_)))))))))))
      with_reducible refine Rd.var (by walk_at "vr") (Rd.c (Rd.setL (by walk_at "hp") (by walk_at "ixn") (Rd.ret (Rd.var (by walk_at "vr") ?_))))
      exact k _ _ (by walk_at "sc") (by walk_at "sc") ⟨_, _, rfl, (by walk_at "sc"), (by walk_at "sc"), (by walk_at "sc")⟩
    · try simp only [decide_eq_true_eq, Bool.not_eq_true', decide_eq_false_iff_not, Bool.not_eq_true, Bool.not_eq_eq_eq_not, Bool.not_true, Bool.not_false, Int.not_lt, Int.not_le, Decidable.not_not] at h0
      with_reducible refine Rd.next (Rd.seq (Rd.asg (Rd.op (Rd.cB (Rd.cons (Rd.op (Rd.op (Rd.op (Rd.var (by walk_at "vr") (Rd.c (Rd.ixL (by walk_at "hpl") (by walk_at "vr") ?_)))))))))))
      with_reducible refine Rd.c (Rd.iC (by walk_at "scm") (Rd.c (Rd.i0 (Rd.nil ((.inl ⟨_, rfl, (Rd.c (Rd.iC (by walk_at "sc") (Rd.sub (Rd.var (by walk_at "vr") (Rd.c (Rd.setL (by walk_at "hp") (by walk_at "ixn") ?_))))))⟩))))))
      with_reducible refine Rd.seq (Rd.asg (Rd.op (Rd.op (Rd.cB (Rd.cons (Rd.op (Rd.op (Rd.var (by walk_at "vr") (Rd.c (Rd.ixL (by walk_at "hpl") (by walk_at "vr") (Rd.op ?_)))))))))))
      with_reducible refine Rd.var (by walk_at "vr") (Rd.c (Rd.ixL (by walk_at "hpl") (by walk_at "vr") (Rd.iC (by walk_at "scm") (Rd.nil ((.inl ⟨_, rfl, (Rd.c (Rd.iC (by walk_at "sc") (Rd.c (Rd.iC (by walk_at "scd") (Rd.name (Rd.seq ?_))))))⟩))))))
      with_reducible refine Rd.ifS (Rd.test (Rd.op (Rd.var (by walk_at "vr") (Rd.op (Rd.c (Rd.c (Rd.iC (by walk_at "scp") (Rd.i0 (Rd.bl ?_)))))))))
      refine Rd.ite (fun h1 => ?_) (fun h1 => ?_)
      · try simp only [decide_eq_true_eq, Bool.not_eq_true', decide_eq_false_iff_not, Bool.not_eq_true, Bool.not_eq_eq_eq_not, Bool.not_true, Bool.not_false] at h1
        with_reducible refine Rd.seq (Rd.asg (Rd.op (Rd.cB (Rd.cons (Rd.op (Rd.op (Rd.op (Rd.var (by walk_at "vr") (Rd.c (Rd.ixL (by walk_at "hpl") (by walk_at "vr") (Rd.c ?_)))))))))))
        with_reducible refine Rd.iC (by walk_at "scm") (Rd.c (Rd.i0 (Rd.nil ((.inl ⟨_, rfl, (Rd.c (Rd.iC (by walk_at "sc") (Rd.sub (Rd.var (by walk_at "vr") (Rd.c (Rd.setL (by walk_at "hp") (by walk_at "ixn") (Rd.asg ?_)))))))⟩)))))
        with_reducible refine Rd.op (Rd.op (Rd.var (by walk_at "vr") (Rd.c (Rd.iC (by walk_at "scm") (Rd.op (Rd.op (Rd.cB (Rd.cons (Rd.op (Rd.op (Rd.var (by walk_at "vr") ?_)))))))))))
        with_reducible refine Rd.c (Rd.ixL (by walk_at "hpl") (by walk_at "vr") (Rd.op (Rd.var (by walk_at "vr") (Rd.c (Rd.ixL (by walk_at "hpl") (by walk_at "vr") (Rd.iC (by walk_at "scm") (Rd.nil ((.inl ⟨_, rfl, (Rd.c (Rd.iC (by walk_at "sc") (Rd.c ?_)))⟩)))))))))
        with_reducible refine Rd.iC (by walk_at "scd") (Rd.i0 (Rd.name (Rd.ret (Rd.op (Rd.cB (Rd.cons (Rd.var (by walk_at "vr") (Rd.nil ((.inl ⟨_, rfl, (Rd.var (by walk_at "vr") (Rd.iC (by walk_at "sc") ?_))⟩))))))))))
        (repeat rw [L2.upd_upd])
        exact k _ _ (Int.emod_nonneg _ (by first | omega | decide)) (Int.emod_lt_of_pos _ hm) ⟨_, _, rfl, hx, (by first | omega | decide), (by first | omega | decide)⟩
      · try simp only [decide_eq_true_eq, Bool.not_eq_true', decide_eq_false_iff_not, Bool.not_eq_true, Bool.not_eq_eq_eq_not, Bool.not_true, Bool.not_false, Int.not_lt, Int.not_le, Decidable.not_not] at h1
        with_reducible refine Rd.next (Rd.ret (Rd.op (Rd.cB (Rd.cons (Rd.var (by walk_at "vr") (Rd.nil ((.inl ⟨_, rfl, (Rd.var (by walk_at "vr") (Rd.iC (by walk_at "sc") ?_))⟩))))))))
        (repeat rw [L2.upd_upd])
        exact k _ _ (Int.emod_nonneg _ (by first | omega | decide)) (Int.emod_lt_of_pos _ hm) ⟨_, _, rfl, hx, (by first | omega | decide), (by first | omega | decide)⟩
/-! _law_look -/
theorem sc_l_look : FnScope ["_law_queue", "_law_line", "_law_value", "_law_oldest"] ["_law_queue", "_law_line", "_law_value"] (defScope s_l_look) := ⟨rfl, rfl, rfl, by decide +kernel, rfl, by decide +kernel, by decide +kernel⟩
abbrev sp_l_look (K : PySem.W.Frag) (A : Adr) : Sp := fun vs H Q _ => ∃ (p dx d l : Addr) (ns : List Int) (i : Int), vs = [.ref p, .ref l, .int i] ∧ (H p = some (.ins A.c_Queue dx (fQ d)) ∧ H d = some (DqO d (ns.map V.int)) ∧ ns.length ≤ 100) ∧ H l = some (.lst (ns.map V.int)) ∧ ∀ H', Same H H' → Q (.bl true) H'
theorem ok_l_look (T : Txt K mg A) : FnOk P w K mg base CX0 4 A.f_l_look A.d_l_look ["_law_queue", "_law_line", "_law_value"] (sp_l_look K A) := by
  refine T.F_l_look.ok sc_l_look (fun vs H Q E h => ?_) (fun cdv Ar outer s H vs Q E hr h => ?_)
  · obtain ⟨p, dx, d, l, ns, i, rfl, ⟨hp, hd, hn⟩, hl, k⟩ := h
    rfl
  · obtain ⟨p, dx, d, l, ns, i, rfl, ⟨hp, hd, hn⟩, hl, k⟩ := h
    have hu := hu_of hr
    have t_k_Queue := T.k_Queue
    rcases ns with _ | ⟨n, ms⟩
    · skip
      refine ⟨_, (pss_cons (ps_set (i := 3) sc_l_look.nd rfl (Or.inl rfl) pe_non)
      (pss_cons (ps_if (pt_cmpR (op_neD hr.units) (pv 1) (pe_lst pa_nil) (nomark _)) (pss_one (ps_set (i := 3) sc_l_look.nd rfl (Or.inl rfl) (pe_ix ix_list (pv 1) pe_int (fun _ _ => rfl)))) pss_nil)
      (pss_cons (ps_if (PW.pt (pw_or (pt_cmpR op_ne (pe_meth0 (pv 0) T.k_Queue T.M_Queue_oldest (ok_Queue_oldest T) (hr.mono (by decide)) T.b_Queue_oldest .nil pass0) (pv 3) (nomark _)) (pw_or1 (pt_cmpR op_ne (pe_callB (Own.len (ok_Queueu__lenu_ T) (hr.mono (by decide)) T.O_Queueu__lenu__1 T.b_Queueu__lenu_ pass0) (by rfl) T.n_len PySem.boot_len (pa_cons (pv 0) pa_nil)) (pe_callB call_len_seq (by rfl) T.n_len PySem.boot_len (pa_cons (pv 1) pa_nil)) (nomark _))))) (pss_one (ps_ret pe_bl)) pss_nil)
      (pss_cons (ps_if (pt_cmpR op_ne (pe_callTy (Own.boolOwn (ok_Queueu__boolu_ T) (hr.mono (by decide)) T.O_Queueu__boolu__1 T.b_Queueu__boolu_ pass0) (by rfl) T.n_bool (by decide +kernel) (pa_cons (pv 0) pa_nil)) (pe_cmpR (op_neD hr.units) (pv 1) (pe_lst pa_nil) (nomark _)) (nomark _)) (pss_one (ps_ret pe_bl)) pss_nil)
      (pss_one (ps_ret (pe_and (pe_cmpR op_eq (pe_cmpR (Own.isin (ok_Queueu__containsu_ T) (hr.mono (by decide)) T.O_Queueu__containsu__1 T.b_Queueu__containsu_ pass0) (pv 2) (pv 0) (by with_unfolding_all rfl)) (pe_cmpR op_in_seq (pv 2) (pv 1) (by with_unfolding_all rfl)) (nomark _)) (pe_and (pe_cmpR op_eq (pe_cmpR (Own.isin (ok_Queueu__containsu_ T) (hr.mono (by decide)) T.O_Queueu__containsu__1 T.b_Queueu__containsu_ pass0) pe_int (pv 0) (by with_unfolding_all rfl)) (pe_cmpR op_in_seq pe_int (pv 1) (by with_unfolding_all rfl)) (nomark _)) (pe_one (pe_cmpR op_eq (pe_meth0 (pv 0) T.k_Queue T.M_Queue_oldest (ok_Queue_oldest T) (hr.mono (by decide)) T.b_Queue_oldest .nil pass0) (pv 3) (nomark _))))))))))), ?_⟩
      try dsimp only [L2.cxOf, L2.Cx.nox, L2.Cx.wish]
      with_reducible refine Rd.seq (Rd.asg (Rd.c (Rd.name (Rd.seq (Rd.ifS (Rd.test (Rd.op (Rd.var (by walk_at "vr") (Rd.lst (Rd.nil (Rd.laid (by walk_at "ll") ?_)))))))))))
      intro p0 np0
      refine ⟨_, _, (by walk_at "dp"), (by walk_at "dp"), (by walk_at "shp"), (by walk_at "shp"), ?_⟩
      with_reducible refine Rd.bl (Rd.iteF (by walk_at "bF") (Rd.next (Rd.seq (Rd.ifS (Rd.or (Rd.test (Rd.op (Rd.meth (Rd.var (by walk_at "vr") (⟨_, _, _, rfl, (by walk_at "hp"), (by walk_at "lk"), (Rd.nil ?_)⟩))))))))))
      refine ⟨_, _, _, _, rfl, ⟨(by walk_at "hp"), (by walk_at "hp"), (by walk_at "sc")⟩, ?_⟩
      with_reducible refine Rd.var (by walk_at "vr") (Rd.neS (by walk_at "vr") (Rd.bl (Rd.iteF (by walk_at "bF") (Rd.test (Rd.op (Rd.cB (Rd.cons (Rd.var (by walk_at "vr") (Rd.nil ?_)))))))))
      refine ⟨_, _, _, rfl, (by walk_at "hp"), ?_⟩
      refine ⟨_, _, _, _, rfl, ⟨(by walk_at "hp"), (by walk_at "hp"), (by walk_at "sc")⟩, ⟨_, rfl, (by omega), (by omega), ?_⟩⟩
      with_reducible refine Rd.cB (Rd.cons (Rd.var (by walk_at "vr") (Rd.nil (⟨_, _, rfl, (by walk_at "hpq"), (Rd.neS (by walk_at "vr") (Rd.bl (Rd.iteF (by walk_at "bF") (Rd.next (Rd.seq (Rd.ifS (Rd.test ?_)))))))⟩))))
      with_reducible refine Rd.op (Rd.cB (Rd.cons (Rd.var (by walk_at "vr") (Rd.nil ?_))))
      refine ⟨_, _, _, rfl, (by walk_at "hp"), ?_⟩
      refine ⟨_, _, _, _, rfl, ⟨(by walk_at "hp"), (by walk_at "hp"), (by walk_at "sc")⟩, ⟨_, rfl, ?_⟩⟩
      with_reducible refine Rd.op (Rd.var (by walk_at "vr") (Rd.lst (Rd.nil (Rd.laid (by walk_at "ll") ?_))))
      intro p1 np1
      refine ⟨_, _, (by walk_at "dp"), (by walk_at "dp"), (by walk_at "shp"), (by walk_at "shp"), ?_⟩
      with_reducible refine Rd.neS (by walk_at "vr") (Rd.bl (Rd.iteF (by walk_at "bF") (Rd.next (Rd.ret (Rd.andV (Rd.op (Rd.op (Rd.var (by walk_at "vr") (Rd.var (by walk_at "vr") ?_)))))))))
      refine ⟨_, _, _, rfl, (by walk_at "hp"), ?_⟩
      refine ⟨_, _, _, _, _, rfl, ⟨(by walk_at "hp"), (by walk_at "hp"), (by walk_at "sc")⟩, ⟨_, rfl, ?_⟩⟩
      with_reducible refine Rd.op (Rd.var (by walk_at "vr") (Rd.var (by walk_at "vr") ?_))
      refine ⟨_, _, rfl, .inl (by walk_at "hpl"), rfl, (by walk_at "flt"), ?_⟩
      with_reducible refine Rd.eqS (by walk_at "vr") (Rd.bl (Rd.iteT (by walk_at "bT") (Rd.andV (Rd.op (Rd.op (Rd.c (Rd.var (by walk_at "vr") ?_)))))))
      refine ⟨_, _, _, rfl, (by walk_at "hp"), ?_⟩
      refine ⟨_, _, _, _, _, rfl, ⟨(by walk_at "hp"), (by walk_at "hp"), (by walk_at "sc")⟩, ⟨_, rfl, ?_⟩⟩
      with_reducible refine Rd.op (Rd.c (Rd.var (by walk_at "vr") ?_))
      refine ⟨_, _, rfl, .inl (by walk_at "hpl"), rfl, (by walk_at "flt"), ?_⟩
      with_reducible refine Rd.eqS (by walk_at "vr") (Rd.bl (Rd.iteT (by walk_at "bT") (Rd.op (Rd.meth (Rd.var (by walk_at "vr") (⟨_, _, _, rfl, (by walk_at "hp"), (by walk_at "lk"), (Rd.nil ?_)⟩))))))
      refine ⟨_, _, _, _, rfl, ⟨(by walk_at "hp"), (by walk_at "hp"), (by walk_at "sc")⟩, ?_⟩
      with_reducible refine Rd.var (by walk_at "vr") (Rd.eqS (by walk_at "vr") ?_)
      exact k _ (by walk_at "frm")
    · skip
      refine ⟨_, (pss_cons (ps_set (i := 3) sc_l_look.nd rfl (Or.inl rfl) pe_non)
      (pss_cons (ps_if (pt_cmpR (op_neD hr.units) (pv 1) (pe_lst pa_nil) (nomark _)) (pss_one (ps_set (i := 3) sc_l_look.nd rfl (Or.inl rfl) (pe_ix ix_list (pv 1) pe_int (fun _ _ => rfl)))) pss_nil)
      (pss_cons (ps_if (PW.pt (pw_or (pt_cmpR op_ne (pe_meth0 (pv 0) T.k_Queue T.M_Queue_oldest (ok_Queue_oldest T) (hr.mono (by decide)) T.b_Queue_oldest .nil pass0) (pv 3) (nomark _)) (pw_or1 (pt_cmpR op_ne (pe_callB (Own.len (ok_Queueu__lenu_ T) (hr.mono (by decide)) T.O_Queueu__lenu__1 T.b_Queueu__lenu_ pass0) (by rfl) T.n_len PySem.boot_len (pa_cons (pv 0) pa_nil)) (pe_callB call_len_seq (by rfl) T.n_len PySem.boot_len (pa_cons (pv 1) pa_nil)) (nomark _))))) (pss_one (ps_ret pe_bl)) pss_nil)
      (pss_cons (ps_if (pt_cmpR op_ne (pe_callTy (Own.boolOwn (ok_Queueu__boolu_ T) (hr.mono (by decide)) T.O_Queueu__boolu__1 T.b_Queueu__boolu_ pass0) (by rfl) T.n_bool (by decide +kernel) (pa_cons (pv 0) pa_nil)) (pe_cmpR (op_neD hr.units) (pv 1) (pe_lst pa_nil) (nomark _)) (nomark _)) (pss_one (ps_ret pe_bl)) pss_nil)
      (pss_one (ps_ret (pe_and (pe_cmpR op_eq (pe_cmpR (Own.isin (ok_Queueu__containsu_ T) (hr.mono (by decide)) T.O_Queueu__containsu__1 T.b_Queueu__containsu_ pass0) (pv 2) (pv 0) (by with_unfolding_all rfl)) (pe_cmpR op_in_seq (pv 2) (pv 1) (by with_unfolding_all rfl)) (nomark _)) (pe_and (pe_cmpR op_eq (pe_cmpR (Own.isin (ok_Queueu__containsu_ T) (hr.mono (by decide)) T.O_Queueu__containsu__1 T.b_Queueu__containsu_ pass0) pe_int (pv 0) (by with_unfolding_all rfl)) (pe_cmpR op_in_seq pe_int (pv 1) (by with_unfolding_all rfl)) (nomark _)) (pe_one (pe_cmpR op_eq (pe_meth0 (pv 0) T.k_Queue T.M_Queue_oldest (ok_Queue_oldest T) (hr.mono (by decide)) T.b_Queue_oldest .nil pass0) (pv 3) (nomark _))))))))))), ?_⟩
      try dsimp only [L2.cxOf, L2.Cx.nox, L2.Cx.wish]
      with_reducible refine Rd.seq (Rd.asg (Rd.c (Rd.name (Rd.seq (Rd.ifS (Rd.test (Rd.op (Rd.var (by walk_at "vr") (Rd.lst (Rd.nil (Rd.laid (by walk_at "ll") ?_)))))))))))
      intro p0 np0
      refine ⟨_, _, (by walk_at "dp"), (by walk_at "dp"), (by walk_at "shp"), (by walk_at "shp"), ?_⟩
      with_reducible refine Rd.bl (Rd.iteT (by walk_at "bT") (Rd.asg (Rd.op (Rd.var (by walk_at "vr") (Rd.c ?_)))))
      refine Rd.ixL (by walk_at "hpl") Rd.atI0 ?_
      with_reducible refine Rd.name (Rd.seq (Rd.ifS (Rd.or (Rd.test (Rd.op (Rd.meth (Rd.var (by walk_at "vr") (⟨_, _, _, rfl, (by walk_at "hp"), (by walk_at "lk"), (Rd.nil ?_)⟩))))))))
      refine ⟨_, _, _, _, rfl, ⟨(by walk_at "hp"), (by walk_at "hp"), (by walk_at "sc")⟩, ?_⟩
      with_reducible refine Rd.var (by walk_at "vr") (Rd.neS (by walk_at "vr") (Rd.bl (Rd.iteF (by walk_at "bF") (Rd.test (Rd.op (Rd.cB (Rd.cons (Rd.var (by walk_at "vr") (Rd.nil ?_)))))))))
      refine ⟨_, _, _, rfl, (by walk_at "hp"), ?_⟩
      refine ⟨_, _, _, _, rfl, ⟨(by walk_at "hp"), (by walk_at "hp"), (by walk_at "sc")⟩, ⟨_, rfl, (by omega), (by omega), ?_⟩⟩
      with_reducible refine Rd.cB (Rd.cons (Rd.var (by walk_at "vr") (Rd.nil (⟨_, _, rfl, (by walk_at "hpq"), (Rd.neS (by walk_at "vr") (Rd.bl (Rd.iteF (by walk_at "bF") (Rd.next (Rd.seq (Rd.ifS (Rd.test ?_)))))))⟩))))
      with_reducible refine Rd.op (Rd.cB (Rd.cons (Rd.var (by walk_at "vr") (Rd.nil ?_))))
      refine ⟨_, _, _, rfl, (by walk_at "hp"), ?_⟩
      refine ⟨_, _, _, _, rfl, ⟨(by walk_at "hp"), (by walk_at "hp"), (by walk_at "sc")⟩, ⟨_, rfl, ?_⟩⟩
      with_reducible refine Rd.op (Rd.var (by walk_at "vr") (Rd.lst (Rd.nil (Rd.laid (by walk_at "ll") ?_))))
      intro p1 np1
      refine ⟨_, _, (by walk_at "dp"), (by walk_at "dp"), (by walk_at "shp"), (by walk_at "shp"), ?_⟩
      with_reducible refine Rd.neS (by walk_at "vr") (Rd.bl (Rd.iteF (by walk_at "bF") (Rd.next (Rd.ret (Rd.andV (Rd.op (Rd.op (Rd.var (by walk_at "vr") (Rd.var (by walk_at "vr") ?_)))))))))
      refine ⟨_, _, _, rfl, (by walk_at "hp"), ?_⟩
      refine ⟨_, _, _, _, _, rfl, ⟨(by walk_at "hp"), (by walk_at "hp"), (by walk_at "sc")⟩, ⟨_, rfl, ?_⟩⟩
      with_reducible refine Rd.op (Rd.var (by walk_at "vr") (Rd.var (by walk_at "vr") ?_))
      refine ⟨_, _, rfl, .inl (by walk_at "hpl"), rfl, (by walk_at "flt"), ?_⟩
      with_reducible refine Rd.eqS (by walk_at "vr") (Rd.bl (Rd.iteT (by walk_at "bT") (Rd.andV (Rd.op (Rd.op (Rd.c (Rd.var (by walk_at "vr") ?_)))))))
      refine ⟨_, _, _, rfl, (by walk_at "hp"), ?_⟩
      refine ⟨_, _, _, _, _, rfl, ⟨(by walk_at "hp"), (by walk_at "hp"), (by walk_at "sc")⟩, ⟨_, rfl, ?_⟩⟩
      with_reducible refine Rd.op (Rd.c (Rd.var (by walk_at "vr") ?_))
      refine ⟨_, _, rfl, .inl (by walk_at "hpl"), rfl, (by walk_at "flt"), ?_⟩
      with_reducible refine Rd.eqS (by walk_at "vr") (Rd.bl (Rd.iteT (by walk_at "bT") (Rd.op (Rd.meth (Rd.var (by walk_at "vr") (⟨_, _, _, rfl, (by walk_at "hp"), (by walk_at "lk"), (Rd.nil ?_)⟩))))))
      refine ⟨_, _, _, _, rfl, ⟨(by walk_at "hp"), (by walk_at "hp"), (by walk_at "sc")⟩, ?_⟩
      with_reducible refine Rd.var (by walk_at "vr") (Rd.eqS (by walk_at "vr") ?_)
      first | exact k _ (by walk_at "frm") | (rw [show (decide (hdV (n :: ms) = V.int n)) = true from decide_eq_true rfl]; exact k _ (by walk_at "frm"))
/-! law -/
theorem sc_law : FnScope ["_law_script", "_law_queues", "_law_lines", "_law_turn", "_law_source_here", "_law_at", "_law_value", "_law_line", "_law_due"] ["_law_script"] (defScope s_law) := ⟨rfl, rfl, rfl, by decide +kernel, rfl, by decide +kernel, by decide +kernel⟩
abbrev sp_law (K : PySem.W.Frag) : Sp := fun vs H Q _ => ∃ (a : Addr) (ns : List Int), vs = [.ref a] ∧ SqL K H a (ns.map V.int) ∧ ns.length ≤ 63 ∧ ∀ H', Q (.bl true) H'
theorem ok_law (T : Txt K mg A) : FnOk P w K mg base CX0 5 A.f_law A.d_law ["_law_script"] (sp_law K) := by
  refine T.F_law.ok sc_law (fun vs H Q E h => ?_) (fun cdv Ar outer s H vs Q E hr h => ?_)
  · obtain ⟨a, ns, rfl, hS, hlen, k⟩ := h
    rfl
  · obtain ⟨a, ns, rfl, hS, hlen, k⟩ := h
    have hu := hu_of hr
    have t_k_Queue := T.k_Queue
    refine ⟨_, (pss_cons (ps_set (i := 1) sc_law.nd rfl (Or.inl rfl) (pe_lst (pa_cons (pe_make0 T.K_Queue (ok_Queueu__initu_ T) (hr.mono (by decide)) (by rfl) T.m_Queue T.b_Queueu__initu_ .nil pass0) (pa_cons (pe_make0 T.K_Queue (ok_Queueu__initu_ T) (hr.mono (by decide)) (by rfl) T.m_Queue T.b_Queueu__initu_ .nil pass0) pa_nil))))
      (pss_cons (ps_set (i := 2) sc_law.nd rfl (Or.inl rfl) (pe_lst (pa_cons (pe_lst pa_nil) (pa_cons (pe_lst pa_nil) pa_nil))))
      (pss_cons (ps_for PassesOwn.never rfl (pi_range1 (by rfl) T.n_range (pa_cons (pe_callB (call_max2 rfl) (by rfl) T.n_max (by decide +kernel) (pa_cons pe_int (pa_cons (pe_callB (call_min2 rfl) (by rfl) T.n_min (by decide +kernel) (pa_cons (pe_callB call_len_seq (by rfl) T.n_len PySem.boot_len (pa_cons (pv 0) pa_nil)) (pa_cons pe_int pa_nil))) pa_nil))) pa_nil)) (pg_name (i := 3) sc_law.nd rfl (Or.inl rfl)) (pss_cons (ps_set (i := 4) sc_law.nd rfl (Or.inl rfl) (pe_call (ok_l_source T) (hr.mono (by decide)) (by rfl) T.m_l_source T.F_l_source.kp T.b_l_source .nil pass0 (pa_cons (pv 0) (pa_cons (pv 3) pa_nil))))
      (pss_cons (ps_set (i := 5) sc_law.nd rfl (Or.inl rfl) (pe_op op_fdivW (pe_call (ok_l_draw T) (hr.mono (by decide)) (by rfl) T.m_l_draw T.F_l_draw.kp T.b_l_draw .nil pass0 (pa_cons (pv 4) (pa_cons pe_int pa_nil))) pe_int))
      (pss_cons (ps_set (i := 6) sc_law.nd rfl (Or.inl rfl) (pe_call (ok_l_draw T) (hr.mono (by decide)) (by rfl) T.m_l_draw T.F_l_draw.kp T.b_l_draw .nil pass0 (pa_cons (pv 4) (pa_cons (pe_ix ix_list (pe_lst (pa_cons pe_int (pa_cons (pe_op op_pow pe_int pe_int) pa_nil))) (pe_call (ok_l_draw T) (hr.mono (by decide)) (by rfl) T.m_l_draw T.F_l_draw.kp T.b_l_draw .nil pass0 (pa_cons (pv 4) (pa_cons pe_int pa_nil))) (fun _ _ => rfl)) pa_nil))))
      (pss_cons (ps_set (i := 7) sc_law.nd rfl (Or.inl rfl) (pe_ix ix_list (pv 2) (pv 5) (fun _ _ => rfl)))
      (pss_cons (ps_if (pt_cmpR op_lt (pe_call (ok_l_draw T) (hr.mono (by decide)) (by rfl) T.m_l_draw T.F_l_draw.kp T.b_l_draw .nil pass0 (pa_cons (pv 4) (pa_cons pe_int pa_nil))) pe_int (nomark _)) (pss_cons (ps_if (pt_cmpR op_notN (pe_meth (pe_ix ix_list (pv 1) (pv 5) (fun _ _ => rfl)) T.k_Queue T.M_Queue_put (ok_Queue_put T) (hr.mono (by decide)) T.b_Queue_put .nil pass0 (pa_cons (pv 6) pa_nil)) pe_non (nomark _)) (pss_one (ps_ret pe_bl)) pss_nil)
      (pss_one (ps_expr (pe_bm PySem.F.plainAttrs_list PySem.F.slot_list_append PySem.F.type_list_append mt_append (pv 7) (pa_cons (pv 6) pa_nil))))) (pss_cons (ps_set (i := 8) sc_law.nd rfl (Or.inl rfl) pe_non)
      (pss_cons (ps_if (pt_cmpR (op_neD hr.units) (pv 7) (pe_lst pa_nil) (nomark _)) (pss_one (ps_set (i := 8) sc_law.nd rfl (Or.inl rfl) (pe_bm PySem.F.plainAttrs_list PySem.F.slot_list_pop PySem.F.type_list_pop mt_popAt (pv 7) (pa_cons pe_int pa_nil)))) pss_nil)
      (pss_one (ps_if (pt_cmpR op_ne (pe_meth0 (pe_ix ix_list (pv 1) (pv 5) (fun _ _ => rfl)) T.k_Queue T.M_Queue_take (ok_Queue_take T) (hr.mono (by decide)) T.b_Queue_take .nil pass0) (pv 8) (nomark _)) (pss_one (ps_ret pe_bl)) pss_nil)))))
      (pss_cons (ps_if (pt_not (pt_val (pe_call (ok_l_look T) (hr.mono (by decide)) (by rfl) T.m_l_look T.F_l_look.kp T.b_l_look .nil pass0 (pa_cons (pe_ix ix_list (pv 1) pe_int (fun _ _ => rfl)) (pa_cons (pe_ix ix_list (pv 2) pe_int (fun _ _ => rfl)) (pa_cons (pv 6) pa_nil)))))) (pss_one (ps_ret pe_bl)) pss_nil)
      (pss_one (ps_if (pt_not (pt_val (pe_call (ok_l_look T) (hr.mono (by decide)) (by rfl) T.m_l_look T.F_l_look.kp T.b_l_look .nil pass0 (pa_cons (pe_ix ix_list (pv 1) pe_int (fun _ _ => rfl)) (pa_cons (pe_ix ix_list (pv 2) pe_int (fun _ _ => rfl)) (pa_cons (pv 6) pa_nil)))))) (pss_one (ps_ret pe_bl)) pss_nil)))))))))
      (pss_one (ps_ret pe_bl))))), ?_⟩
    try dsimp only [L2.cxOf, L2.Cx.nox, L2.Cx.wish]
    with_reducible refine Rd.seq (Rd.asg (Rd.lst (Rd.cons (Rd.make (Rd.nil ?_)))))
    intro x1 dx1 nx1 ndx1 ne1
    refine ⟨_, _, rfl, L2.upd_same, fun d1 H1 F1 nd1 hx1 hd1 => ⟨rfl, ?_⟩⟩
    with_reducible refine Rd.cons (Rd.make (Rd.nil ?_))
    intro x2 dx2 nx2 ndx2 ne2
    refine ⟨_, _, rfl, L2.upd_same, fun d2 H2 F2 nd2 hx2 hd2 => ⟨rfl, ?_⟩⟩
    with_reducible refine Rd.nil (Rd.laid (by walk_at "ll") ?_)
    intro p0 np0
    with_reducible refine Rd.name ?_
    try dsimp only [List.set]
    with_reducible refine Rd.seq (Rd.asg (Rd.lst (Rd.cons (Rd.lst (Rd.nil (Rd.laid (by walk_at "ll") ?_))))))
    intro p2 np2
    with_reducible refine Rd.cons (Rd.lst (Rd.nil (Rd.laid (by walk_at "ll") ?_)))
    intro p3 np3
    with_reducible refine Rd.nil (Rd.laid (by walk_at "ll") ?_)
    intro p1 np1
    with_reducible refine Rd.name ?_
    try dsimp only [List.set]
    have ne0 : p0 ≠ p1 := by walk_at "ne"
    have ne1 : p0 ≠ p2 := by walk_at "ne"
    have ne2 : p0 ≠ p3 := by walk_at "ne"
    have ne3 : p0 ≠ d1 := by walk_at "ne"
    have ne4 : p0 ≠ d2 := by walk_at "ne"
    have ne5 : p0 ≠ x1 := by walk_at "ne"
    have ne6 : p0 ≠ x2 := by walk_at "ne"
    have ne7 : p1 ≠ p2 := by walk_at "ne"
    have ne8 : p1 ≠ p3 := by walk_at "ne"
    have ne9 : p1 ≠ d1 := by walk_at "ne"
    have ne10 : p1 ≠ d2 := by walk_at "ne"
    have ne11 : p1 ≠ x1 := by walk_at "ne"
    have ne12 : p1 ≠ x2 := by walk_at "ne"
    have ne13 : p2 ≠ p3 := by walk_at "ne"
    have ne14 : p2 ≠ d1 := by walk_at "ne"
    have ne15 : p2 ≠ d2 := by walk_at "ne"
    have ne16 : p2 ≠ x1 := by walk_at "ne"
    have ne17 : p2 ≠ x2 := by walk_at "ne"
    have ne18 : p3 ≠ d1 := by walk_at "ne"
    have ne19 : p3 ≠ d2 := by walk_at "ne"
    have ne20 : p3 ≠ x1 := by walk_at "ne"
    have ne21 : p3 ≠ x2 := by walk_at "ne"
    have ne22 : d1 ≠ d2 := by walk_at "ne"
    have ne23 : d1 ≠ x1 := by walk_at "ne"
    have ne24 : d1 ≠ x2 := by walk_at "ne"
    have ne25 : d2 ≠ x1 := by walk_at "ne"
    have ne26 : d2 ≠ x2 := by walk_at "ne"
    have nex : x1 ≠ x2 := by walk_at "ne"
    have bS : Same H (upd (upd (upd (upd H2 p0 (.lst [.ref x1, .ref x2])) p2 (.lst [])) p3 (.lst [])) p1 (.lst [.ref p2, .ref p3])) := by
      intro b o hb
      refine updFresh np1 (updFresh np3 (updFresh np2 (updFresh np0 (Frm.get' F2 ?_ ?_))))
      · walk_at "ne"
      · walk_at "hp"
    have hS1 : SqL K (upd (upd (upd (upd H2 p0 (.lst [.ref x1, .ref x2])) p2 (.lst [])) p3 (.lst [])) p1 (.lst [.ref p2, .ref p3])) a (ns.map V.int) := SqLR hS bS
    have bp0 : (upd (upd (upd (upd H2 p0 (.lst [.ref x1, .ref x2])) p2 (.lst [])) p3 (.lst [])) p1 (.lst [.ref p2, .ref p3])) p0 = some (.lst [.ref x1, .ref x2]) := by walk_at "hp"
    have bp1 : (upd (upd (upd (upd H2 p0 (.lst [.ref x1, .ref x2])) p2 (.lst [])) p3 (.lst [])) p1 (.lst [.ref p2, .ref p3])) p1 = some (.lst [.ref p2, .ref p3]) := by walk_at "hp"
    have bx1 : (upd (upd (upd (upd H2 p0 (.lst [.ref x1, .ref x2])) p2 (.lst [])) p3 (.lst [])) p1 (.lst [.ref p2, .ref p3])) x1 = some (.ins A.c_Queue dx1 (fQ d1)) := by walk_at "hp"
    have bx2 : (upd (upd (upd (upd H2 p0 (.lst [.ref x1, .ref x2])) p2 (.lst [])) p3 (.lst [])) p1 (.lst [.ref p2, .ref p3])) x2 = some (.ins A.c_Queue dx2 (fQ d2)) := by walk_at "hp"
    have bd1 : (upd (upd (upd (upd H2 p0 (.lst [.ref x1, .ref x2])) p2 (.lst [])) p3 (.lst [])) p1 (.lst [.ref p2, .ref p3])) d1 = some (DqO d1 (([] : List Int).map V.int)) := (by walk_at "hp" : (upd (upd (upd (upd H2 p0 (.lst [.ref x1, .ref x2])) p2 (.lst [])) p3 (.lst [])) p1 (.lst [.ref p2, .ref p3])) d1 = some (DqO d1 []))
    have bd2 : (upd (upd (upd (upd H2 p0 (.lst [.ref x1, .ref x2])) p2 (.lst [])) p3 (.lst [])) p1 (.lst [.ref p2, .ref p3])) d2 = some (DqO d2 (([] : List Int).map V.int)) := (by walk_at "hp" : (upd (upd (upd (upd H2 p0 (.lst [.ref x1, .ref x2])) p2 (.lst [])) p3 (.lst [])) p1 (.lst [.ref p2, .ref p3])) d2 = some (DqO d2 []))
    have bp2 : (upd (upd (upd (upd H2 p0 (.lst [.ref x1, .ref x2])) p2 (.lst [])) p3 (.lst [])) p1 (.lst [.ref p2, .ref p3])) p2 = some (.lst (([] : List Int).map V.int)) := (by walk_at "hp" : (upd (upd (upd (upd H2 p0 (.lst [.ref x1, .ref x2])) p2 (.lst [])) p3 (.lst [])) p1 (.lst [.ref p2, .ref p3])) p2 = some (.lst []))
    have bp3 : (upd (upd (upd (upd H2 p0 (.lst [.ref x1, .ref x2])) p2 (.lst [])) p3 (.lst [])) p1 (.lst [.ref p2, .ref p3])) p3 = some (.lst (([] : List Int).map V.int)) := (by walk_at "hp" : (upd (upd (upd (upd H2 p0 (.lst [.ref x1, .ref x2])) p2 (.lst [])) p3 (.lst [])) p1 (.lst [.ref p2, .ref p3])) p3 = some (.lst []))
    have fp0 : H p0 = none := by walk_at "nn"
    have fp1 : H p1 = none := by walk_at "nn"
    have fp2 : H p2 = none := by walk_at "nn"
    have fp3 : H p3 = none := by walk_at "nn"
    have fd1 : H d1 = none := by walk_at "nn"
    have fd2 : H d2 = none := by walk_at "nn"
    have fx1 : H x1 = none := by walk_at "nn"
    have fx2 : H x2 = none := by walk_at "nn"
    with_reducible refine Rd.seq (Rd.fr (Rd.rng1 (Rd.cons (Rd.cB (Rd.cons (Rd.c (Rd.cons (Rd.cB (Rd.cons (Rd.cB (Rd.cons ?_)))))))))))
    with_reducible refine Rd.var (by walk_at "vr") (Rd.nil (⟨_, _, rfl, (by walk_at "hpq"), (Rd.cons (Rd.c (Rd.nil (⟨_, _, rfl, (Rd.nil (⟨_, _, rfl, (Rd.nil (⟨_, rfl, (by walk_at "sc"), (by walk_at "sc"), ?_⟩))⟩))⟩))))⟩))
    refine for_range (lo := 0) (fun (i : Nat) (σ : L2.St) (H' : Hp) => ∃ (v3 v4 v5 v6 v7 v8 : Option V) (ns0 ns1 : List Int), σ = [some (.ref a), some (.ref p0), some (.ref p1), v3, v4, v5, v6, v7, v8] ∧ Same H H' ∧ H' p0 = some (.lst [.ref x1, .ref x2]) ∧ H' p1 = some (.lst [.ref p2, .ref p3]) ∧ H' x1 = some (.ins A.c_Queue dx1 (fQ d1)) ∧ H' x2 = some (.ins A.c_Queue dx2 (fQ d2)) ∧ H' d1 = some (DqO d1 (ns0.map V.int)) ∧ H' d2 = some (DqO d2 (ns1.map V.int)) ∧ H' p2 = some (.lst (ns0.map V.int)) ∧ H' p3 = some (.lst (ns1.map V.int)) ∧ ns0.length ≤ i ∧ ns1.length ≤ i) ⟨none, none, none, none, none, none, [], [], rfl, bS, bp0, bp1, bx1, bx2, bd1, bd2, bp2, bp3, Nat.le_refl _, Nat.le_refl _⟩ (fun i σ H0 hi ⟨v3, v4, v5, v6, v7, v8, ns0, ns1, es, S0, gp0, gp1, gx1, gx2, gd1, gd2, gl0, gl1, hn0, hn1⟩ => ?_) (fun σ H0 ⟨v3, v4, v5, v6, v7, v8, ns0, ns1, es, S0, gp0, gp1, gx1, gx2, gd1, gd2, gl0, gl1, hn0, hn1⟩ => ?_)
    · subst es
      clear bS bp0 bp1 bx1 bx2 bd1 bd2 bp2 bp3 hS1 hx1 hd1 hx2 hd2 F1 F2 np0 np1 np2 np3 nd1 nd2 nx1 nx2 ndx1 ndx2
      have hi63 : i < 64 := by first | omega | ((repeat' split at hi) <;> omega)
      have hS0 := Same.seq S0 hS
      with_reducible refine Rd.name (Rd.seq (Rd.asg (Rd.call (Rd.cons (Rd.var (by walk_at "vr") (Rd.cons (Rd.var (by walk_at "vr") (Rd.nil ?_))))))))
      refine ⟨_, _, _, rfl, (by walk_at "hpl"), (by walk_at "sc"), (by walk_at "sc"), fun src3 o3 src3n s3 => ?_⟩
      with_reducible refine Rd.name ?_
      try dsimp only [List.set]
      with_reducible refine Rd.seq (Rd.asg (Rd.op (Rd.call (Rd.cons (Rd.var (by walk_at "vr") (Rd.cons (Rd.c (Rd.nil ?_))))))))
      refine ⟨_, _, _, rfl, (by walk_at "hp"), (by walk_at "sc"), (by walk_at "sc"), (by walk_at "sc"), fun d4 o4 d4a d4b s4 => ?_⟩
      with_reducible refine Rd.c (Rd.iC (by walk_at "scd") (Rd.name ?_))
      try dsimp only [List.set]
      rcases (by omega : d4 / 3 = 0 ∨ d4 / 3 = 1) with e | e <;> rw [e]
      · with_reducible refine Rd.seq (Rd.asg (Rd.call (Rd.cons (Rd.var (by walk_at "vr") (Rd.cons (Rd.op (Rd.lst (Rd.cons (Rd.c (Rd.cons (Rd.op ?_)))))))))))
        with_reducible refine Rd.c (Rd.c (Rd.iC (by walk_at "scp") (Rd.nil (Rd.laid (by walk_at "ll") ?_))))
        intro p4 np4
        with_reducible refine Rd.call (Rd.cons (Rd.var (by walk_at "vr") (Rd.cons (Rd.c (Rd.nil ?_)))))
        refine ⟨_, _, _, rfl, (by walk_at "hp"), (by walk_at "sc"), (by walk_at "sc"), (by walk_at "sc"), fun d5 o5 d5a d5b s5 => ?_⟩
        refine Rd.pick (ns := [9, 100000000000000000000]) (lo := 9) (hi := 100000000000000000000) (by decide) (by walk_at "hpl") (by walk_at "vr") (by walk_at "sc") (by show (_ : Int) < 2; walk_at "sc") (fun n_0 m_0 na_0 nb_0 => ?_)
        with_reducible refine Rd.nil ?_
        refine ⟨_, _, _, rfl, (by walk_at "hp"), (by walk_at "sc"), (by walk_at "sc"), (by walk_at "sc"), fun d6 o6 d6a d6b s6 => ?_⟩
        with_reducible refine Rd.name ?_
        try dsimp only [List.set]
        with_reducible refine Rd.seq (Rd.asg (Rd.op (Rd.var (by walk_at "vr") (Rd.var (by walk_at "vr") (Rd.ixL (by walk_at "hpl") (by walk_at "vr") (Rd.name ?_))))))
        try dsimp only [List.set]
        with_reducible refine Rd.seq (Rd.ifS (Rd.test (Rd.op (Rd.call (Rd.cons (Rd.var (by walk_at "vr") (Rd.cons (Rd.c (Rd.nil ?_)))))))))
        refine ⟨_, _, _, rfl, (by walk_at "hp"), (by walk_at "sc"), (by walk_at "sc"), (by walk_at "sc"), fun d7 o7 d7a d7b s7 => ?_⟩
        with_reducible refine Rd.c (Rd.i0 (Rd.bl ?_))
        refine Rd.ite (fun h0 => ?_) (fun h0 => ?_)
        · try simp only [decide_eq_true_eq, Bool.not_eq_true', decide_eq_false_iff_not, Bool.not_eq_true, Bool.not_eq_eq_eq_not, Bool.not_true, Bool.not_false] at h0
          with_reducible refine Rd.seq (Rd.ifS (Rd.test (Rd.op (Rd.meth (Rd.op (Rd.var (by walk_at "vr") (Rd.var (by walk_at "vr") (Rd.ixL (by walk_at "hpl") (by walk_at "vr") (⟨_, _, _, rfl, (by walk_at "hp"), (by walk_at "lk"), (Rd.cons (Rd.var (by walk_at "vr") ?_))⟩)))))))))
          with_reducible refine Rd.nil ?_
          refine ⟨_, _, _, _, _, rfl, ⟨(by walk_at "hp"), (by walk_at "hp"), (by walk_at "sc")⟩, ?_⟩
          with_reducible refine Rd.c (⟨rfl, (Rd.bl (Rd.iteF (by walk_at "bF") (Rd.next (Rd.drop ?_))))⟩)
          unfold tBM
          with_reducible refine Rd.var (by walk_at "vr") ?_
          refine ⟨Or.inl ⟨rfl, _, (by walk_at "hpl")⟩, ?_⟩
          with_reducible refine Rd.cons (Rd.var (by walk_at "vr") (Rd.nil ?_))
          refine ⟨_, _, _, rfl, rfl, (by walk_at "hp"), (by walk_at "sz"), ?_⟩
          rw [Rd.mapApp]
          with_reducible refine Rd.seq (Rd.ifS (Rd.not (Rd.tb (Rd.call (Rd.cons (Rd.op (Rd.var (by walk_at "vr") (Rd.c (Rd.ixL (by walk_at "hpl") (by walk_at "vr") (Rd.cons (Rd.op ?_)))))))))))
          with_reducible refine Rd.var (by walk_at "vr") (Rd.c (Rd.ixL (by walk_at "hpl") (by walk_at "vr") (Rd.cons (Rd.var (by walk_at "vr") (Rd.nil ?_)))))
          refine ⟨_, _, _, _, _, _, rfl, ⟨(by walk_at "hp"), (by walk_at "hp"), (by first | omega | (simp only [List.length_append, List.length_cons, List.length_nil] at *; omega))⟩, (by walk_at "hp"), fun H9 S9 => ?_⟩
          with_reducible refine Rd.bl (Rd.iteF (by walk_at "bF") (Rd.next (Rd.ifS (Rd.not (Rd.tb (Rd.call (Rd.cons (Rd.op (Rd.var (by walk_at "vr") (Rd.c (Rd.ixL (by walk_at "hpl") (by walk_at "vr") ?_)))))))))))
          with_reducible refine Rd.cons (Rd.op (Rd.var (by walk_at "vr") (Rd.c (Rd.ixL (by walk_at "hpl") (by walk_at "vr") (Rd.cons (Rd.var (by walk_at "vr") (Rd.nil ?_)))))))
          refine ⟨_, _, _, _, _, _, rfl, ⟨(by walk_at "hp"), (by walk_at "hp"), (by first | omega | (simp only [List.length_append, List.length_cons, List.length_nil] at *; omega))⟩, (by walk_at "hp"), fun H10 S10 => ?_⟩
          with_reducible refine Rd.bl (Rd.iteF (by walk_at "bF") (Rd.next ?_))
          exact ⟨_, _, _, _, _, _, _, _, rfl, (by walk_at "frm"), (by walk_at "hp"), (by walk_at "hp"), (by walk_at "hp"), (by walk_at "hp"), (by walk_at "hp"), (by walk_at "hp"), (by walk_at "hp"), (by walk_at "hp"), (by first | omega | (simp only [List.length_append, List.length_cons, List.length_nil] at *; omega)), (by first | omega | (simp only [List.length_append, List.length_cons, List.length_nil] at *; omega))⟩
        · try simp only [decide_eq_true_eq, Bool.not_eq_true', decide_eq_false_iff_not, Bool.not_eq_true, Bool.not_eq_eq_eq_not, Bool.not_true, Bool.not_false, Int.not_lt, Int.not_le, Decidable.not_not] at h0
          with_reducible refine Rd.seq (Rd.asg (Rd.c (Rd.name ?_)))
          try dsimp only [List.set]
          rcases ns0 with _ | ⟨n0, ns0⟩
          · with_reducible refine Rd.seq (Rd.ifS (Rd.test (Rd.op (Rd.var (by walk_at "vr") (Rd.lst (Rd.nil (Rd.laid (by walk_at "ll") ?_)))))))
            intro p5 np5
            refine ⟨_, _, (by walk_at "dp"), (by walk_at "dp"), (by walk_at "shp"), (by walk_at "shp"), ?_⟩
            with_reducible refine Rd.bl (Rd.iteF (by walk_at "bF") (Rd.next (Rd.ifS (Rd.test (Rd.op (Rd.meth (Rd.op (Rd.var (by walk_at "vr") (Rd.var (by walk_at "vr") (Rd.ixL (by walk_at "hpl") (by walk_at "vr") (⟨_, _, _, rfl, (by walk_at "hp"), (by walk_at "lk"), ?_⟩)))))))))))
            with_reducible refine Rd.nil ?_
            refine ⟨_, _, _, _, rfl, ⟨(by walk_at "hp"), (by walk_at "hp"), (by walk_at "sc")⟩, .inl ⟨rfl, ?_⟩⟩
            with_reducible refine Rd.var (by walk_at "vr") (Rd.neS (by walk_at "vr") (Rd.bl (Rd.iteF (by walk_at "bF") (Rd.next (Rd.seq (Rd.ifS (Rd.not (Rd.tb (Rd.call (Rd.cons (Rd.op ?_)))))))))))
            with_reducible refine Rd.var (by walk_at "vr") (Rd.c (Rd.ixL (by walk_at "hpl") (by walk_at "vr") (Rd.cons (Rd.op (Rd.var (by walk_at "vr") (Rd.c (Rd.ixL (by walk_at "hpl") (by walk_at "vr") (Rd.cons (Rd.var (by walk_at "vr") (Rd.nil ?_))))))))))
            refine ⟨_, _, _, _, _, _, rfl, ⟨(by walk_at "hp"), (by walk_at "hp"), (by first | omega | (simp only [List.length_append, List.length_cons, List.length_nil] at *; omega))⟩, (by walk_at "hp"), fun H12 S12 => ?_⟩
            with_reducible refine Rd.bl (Rd.iteF (by walk_at "bF") (Rd.next (Rd.ifS (Rd.not (Rd.tb (Rd.call (Rd.cons (Rd.op (Rd.var (by walk_at "vr") (Rd.c (Rd.ixL (by walk_at "hpl") (by walk_at "vr") ?_)))))))))))
            with_reducible refine Rd.cons (Rd.op (Rd.var (by walk_at "vr") (Rd.c (Rd.ixL (by walk_at "hpl") (by walk_at "vr") (Rd.cons (Rd.var (by walk_at "vr") (Rd.nil ?_)))))))
            refine ⟨_, _, _, _, _, _, rfl, ⟨(by walk_at "hp"), (by walk_at "hp"), (by first | omega | (simp only [List.length_append, List.length_cons, List.length_nil] at *; omega))⟩, (by walk_at "hp"), fun H13 S13 => ?_⟩
            with_reducible refine Rd.bl (Rd.iteF (by walk_at "bF") (Rd.next ?_))
            exact ⟨_, _, _, _, _, _, _, _, rfl, (by walk_at "frm"), (by walk_at "hp"), (by walk_at "hp"), (by walk_at "hp"), (by walk_at "hp"), (by walk_at "hp"), (by walk_at "hp"), (by walk_at "hp"), (by walk_at "hp"), (by first | omega | (simp only [List.length_append, List.length_cons, List.length_nil] at *; omega)), (by first | omega | (simp only [List.length_append, List.length_cons, List.length_nil] at *; omega))⟩
          · with_reducible refine Rd.seq (Rd.ifS (Rd.test (Rd.op (Rd.var (by walk_at "vr") (Rd.lst (Rd.nil (Rd.laid (by walk_at "ll") ?_)))))))
            intro p5 np5
            refine ⟨_, _, (by walk_at "dp"), (by walk_at "dp"), (by walk_at "shp"), (by walk_at "shp"), ?_⟩
            with_reducible refine Rd.bl (Rd.iteT (by walk_at "bT") (Rd.asg ?_))
            unfold tBM
            with_reducible refine Rd.var (by walk_at "vr") ?_
            refine ⟨Or.inl ⟨rfl, _, (by walk_at "hpl")⟩, ?_⟩
            with_reducible refine Rd.cons (Rd.c (Rd.nil ?_))
            refine ⟨_, _, _, 0, _, rfl, rfl, (by walk_at "hp"), (by decide), (by decide), (by walk_at "six"), (by walk_at "vr"), ?_⟩
            with_reducible refine Rd.name ?_
            try dsimp only [List.set]
            rw [Rd.mapTail]
            with_reducible refine Rd.ifS (Rd.test (Rd.op (Rd.meth (Rd.op (Rd.var (by walk_at "vr") (Rd.var (by walk_at "vr") (Rd.ixL (by walk_at "hpl") (by walk_at "vr") (⟨_, _, _, rfl, (by walk_at "hp"), (by walk_at "lk"), (Rd.nil ?_)⟩))))))))
            refine ⟨_, _, _, _, rfl, ⟨(by walk_at "hp"), (by walk_at "hp"), (by walk_at "sc")⟩, .inr ⟨_, _, rfl, ?_⟩⟩
            with_reducible refine Rd.var (by walk_at "vr") (Rd.neS (by walk_at "vr") (Rd.bl (Rd.iteF (by walk_at "bF") (Rd.next (Rd.seq (Rd.ifS (Rd.not (Rd.tb (Rd.call (Rd.cons (Rd.op ?_)))))))))))
            with_reducible refine Rd.var (by walk_at "vr") (Rd.c (Rd.ixL (by walk_at "hpl") (by walk_at "vr") (Rd.cons (Rd.op (Rd.var (by walk_at "vr") (Rd.c (Rd.ixL (by walk_at "hpl") (by walk_at "vr") (Rd.cons (Rd.var (by walk_at "vr") (Rd.nil ?_))))))))))
            refine ⟨_, _, _, _, _, _, rfl, ⟨(by walk_at "hp"), (by walk_at "hp"), (by first | omega | (simp only [List.length_append, List.length_cons, List.length_nil] at *; omega))⟩, (by walk_at "hp"), fun H15 S15 => ?_⟩
            with_reducible refine Rd.bl (Rd.iteF (by walk_at "bF") (Rd.next (Rd.ifS (Rd.not (Rd.tb (Rd.call (Rd.cons (Rd.op (Rd.var (by walk_at "vr") (Rd.c (Rd.ixL (by walk_at "hpl") (by walk_at "vr") ?_)))))))))))
            with_reducible refine Rd.cons (Rd.op (Rd.var (by walk_at "vr") (Rd.c (Rd.ixL (by walk_at "hpl") (by walk_at "vr") (Rd.cons (Rd.var (by walk_at "vr") (Rd.nil ?_)))))))
            refine ⟨_, _, _, _, _, _, rfl, ⟨(by walk_at "hp"), (by walk_at "hp"), (by first | omega | (simp only [List.length_append, List.length_cons, List.length_nil] at *; omega))⟩, (by walk_at "hp"), fun H16 S16 => ?_⟩
            with_reducible refine Rd.bl (Rd.iteF (by walk_at "bF") (Rd.next ?_))
            exact ⟨_, _, _, _, _, _, _, _, rfl, (by walk_at "frm"), (by walk_at "hp"), (by walk_at "hp"), (by walk_at "hp"), (by walk_at "hp"), (by walk_at "hp"), (by walk_at "hp"), (by walk_at "hp"), (by walk_at "hp"), (by first | omega | (simp only [List.length_append, List.length_cons, List.length_nil] at *; omega)), (by first | omega | (simp only [List.length_append, List.length_cons, List.length_nil] at *; omega))⟩
      · with_reducible refine Rd.seq (Rd.asg (Rd.call (Rd.cons (Rd.var (by walk_at "vr") (Rd.cons (Rd.op (Rd.lst (Rd.cons (Rd.c (Rd.cons (Rd.op ?_)))))))))))
        with_reducible refine Rd.c (Rd.c (Rd.iC (by walk_at "scp") (Rd.nil (Rd.laid (by walk_at "ll") ?_))))
        intro p4 np4
        with_reducible refine Rd.call (Rd.cons (Rd.var (by walk_at "vr") (Rd.cons (Rd.c (Rd.nil ?_)))))
        refine ⟨_, _, _, rfl, (by walk_at "hp"), (by walk_at "sc"), (by walk_at "sc"), (by walk_at "sc"), fun d17 o17 d17a d17b s17 => ?_⟩
        refine Rd.pick (ns := [9, 100000000000000000000]) (lo := 9) (hi := 100000000000000000000) (by decide) (by walk_at "hpl") (by walk_at "vr") (by walk_at "sc") (by show (_ : Int) < 2; walk_at "sc") (fun n_0 m_0 na_0 nb_0 => ?_)
        with_reducible refine Rd.nil ?_
        refine ⟨_, _, _, rfl, (by walk_at "hp"), (by walk_at "sc"), (by walk_at "sc"), (by walk_at "sc"), fun d18 o18 d18a d18b s18 => ?_⟩
        with_reducible refine Rd.name ?_
        try dsimp only [List.set]
        with_reducible refine Rd.seq (Rd.asg (Rd.op (Rd.var (by walk_at "vr") (Rd.var (by walk_at "vr") (Rd.ixL (by walk_at "hpl") (by walk_at "vr") (Rd.name ?_))))))
        try dsimp only [List.set]
        with_reducible refine Rd.seq (Rd.ifS (Rd.test (Rd.op (Rd.call (Rd.cons (Rd.var (by walk_at "vr") (Rd.cons (Rd.c (Rd.nil ?_)))))))))
        refine ⟨_, _, _, rfl, (by walk_at "hp"), (by walk_at "sc"), (by walk_at "sc"), (by walk_at "sc"), fun d19 o19 d19a d19b s19 => ?_⟩
        with_reducible refine Rd.c (Rd.i0 (Rd.bl ?_))
        refine Rd.ite (fun h0 => ?_) (fun h0 => ?_)
        · try simp only [decide_eq_true_eq, Bool.not_eq_true', decide_eq_false_iff_not, Bool.not_eq_true, Bool.not_eq_eq_eq_not, Bool.not_true, Bool.not_false] at h0
          with_reducible refine Rd.seq (Rd.ifS (Rd.test (Rd.op (Rd.meth (Rd.op (Rd.var (by walk_at "vr") (Rd.var (by walk_at "vr") (Rd.ixL (by walk_at "hpl") (by walk_at "vr") (⟨_, _, _, rfl, (by walk_at "hp"), (by walk_at "lk"), (Rd.cons (Rd.var (by walk_at "vr") ?_))⟩)))))))))
          with_reducible refine Rd.nil ?_
          refine ⟨_, _, _, _, _, rfl, ⟨(by walk_at "hp"), (by walk_at "hp"), (by walk_at "sc")⟩, ?_⟩
          with_reducible refine Rd.c (⟨rfl, (Rd.bl (Rd.iteF (by walk_at "bF") (Rd.next (Rd.drop ?_))))⟩)
          unfold tBM
          with_reducible refine Rd.var (by walk_at "vr") ?_
          refine ⟨Or.inl ⟨rfl, _, (by walk_at "hpl")⟩, ?_⟩
          with_reducible refine Rd.cons (Rd.var (by walk_at "vr") (Rd.nil ?_))
          refine ⟨_, _, _, rfl, rfl, (by walk_at "hp"), (by walk_at "sz"), ?_⟩
          rw [Rd.mapApp]
          with_reducible refine Rd.seq (Rd.ifS (Rd.not (Rd.tb (Rd.call (Rd.cons (Rd.op (Rd.var (by walk_at "vr") (Rd.c (Rd.ixL (by walk_at "hpl") (by walk_at "vr") (Rd.cons (Rd.op ?_)))))))))))
          with_reducible refine Rd.var (by walk_at "vr") (Rd.c (Rd.ixL (by walk_at "hpl") (by walk_at "vr") (Rd.cons (Rd.var (by walk_at "vr") (Rd.nil ?_)))))
          refine ⟨_, _, _, _, _, _, rfl, ⟨(by walk_at "hp"), (by walk_at "hp"), (by first | omega | (simp only [List.length_append, List.length_cons, List.length_nil] at *; omega))⟩, (by walk_at "hp"), fun H21 S21 => ?_⟩
          with_reducible refine Rd.bl (Rd.iteF (by walk_at "bF") (Rd.next (Rd.ifS (Rd.not (Rd.tb (Rd.call (Rd.cons (Rd.op (Rd.var (by walk_at "vr") (Rd.c (Rd.ixL (by walk_at "hpl") (by walk_at "vr") ?_)))))))))))
          with_reducible refine Rd.cons (Rd.op (Rd.var (by walk_at "vr") (Rd.c (Rd.ixL (by walk_at "hpl") (by walk_at "vr") (Rd.cons (Rd.var (by walk_at "vr") (Rd.nil ?_)))))))
          refine ⟨_, _, _, _, _, _, rfl, ⟨(by walk_at "hp"), (by walk_at "hp"), (by first | omega | (simp only [List.length_append, List.length_cons, List.length_nil] at *; omega))⟩, (by walk_at "hp"), fun H22 S22 => ?_⟩
          with_reducible refine Rd.bl (Rd.iteF (by walk_at "bF") (Rd.next ?_))
          exact ⟨_, _, _, _, _, _, _, _, rfl, (by walk_at "frm"), (by walk_at "hp"), (by walk_at "hp"), (by walk_at "hp"), (by walk_at "hp"), (by walk_at "hp"), (by walk_at "hp"), (by walk_at "hp"), (by walk_at "hp"), (by first | omega | (simp only [List.length_append, List.length_cons, List.length_nil] at *; omega)), (by first | omega | (simp only [List.length_append, List.length_cons, List.length_nil] at *; omega))⟩
        · try simp only [decide_eq_true_eq, Bool.not_eq_true', decide_eq_false_iff_not, Bool.not_eq_true, Bool.not_eq_eq_eq_not, Bool.not_true, Bool.not_false, Int.not_lt, Int.not_le, Decidable.not_not] at h0
          with_reducible refine Rd.seq (Rd.asg (Rd.c (Rd.name ?_)))
          try dsimp only [List.set]
          rcases ns1 with _ | ⟨n0, ns1⟩
          · with_reducible refine Rd.seq (Rd.ifS (Rd.test (Rd.op (Rd.var (by walk_at "vr") (Rd.lst (Rd.nil (Rd.laid (by walk_at "ll") ?_)))))))
            intro p5 np5
            refine ⟨_, _, (by walk_at "dp"), (by walk_at "dp"), (by walk_at "shp"), (by walk_at "shp"), ?_⟩
            with_reducible refine Rd.bl (Rd.iteF (by walk_at "bF") (Rd.next (Rd.ifS (Rd.test (Rd.op (Rd.meth (Rd.op (Rd.var (by walk_at "vr") (Rd.var (by walk_at "vr") (Rd.ixL (by walk_at "hpl") (by walk_at "vr") (⟨_, _, _, rfl, (by walk_at "hp"), (by walk_at "lk"), ?_⟩)))))))))))
            with_reducible refine Rd.nil ?_
            refine ⟨_, _, _, _, rfl, ⟨(by walk_at "hp"), (by walk_at "hp"), (by walk_at "sc")⟩, .inl ⟨rfl, ?_⟩⟩
            with_reducible refine Rd.var (by walk_at "vr") (Rd.neS (by walk_at "vr") (Rd.bl (Rd.iteF (by walk_at "bF") (Rd.next (Rd.seq (Rd.ifS (Rd.not (Rd.tb (Rd.call (Rd.cons (Rd.op ?_)))))))))))
            with_reducible refine Rd.var (by walk_at "vr") (Rd.c (Rd.ixL (by walk_at "hpl") (by walk_at "vr") (Rd.cons (Rd.op (Rd.var (by walk_at "vr") (Rd.c (Rd.ixL (by walk_at "hpl") (by walk_at "vr") (Rd.cons (Rd.var (by walk_at "vr") (Rd.nil ?_))))))))))
            refine ⟨_, _, _, _, _, _, rfl, ⟨(by walk_at "hp"), (by walk_at "hp"), (by first | omega | (simp only [List.length_append, List.length_cons, List.length_nil] at *; omega))⟩, (by walk_at "hp"), fun H24 S24 => ?_⟩
            with_reducible refine Rd.bl (Rd.iteF (by walk_at "bF") (Rd.next (Rd.ifS (Rd.not (Rd.tb (Rd.call (Rd.cons (Rd.op (Rd.var (by walk_at "vr") (Rd.c (Rd.ixL (by walk_at "hpl") (by walk_at "vr") ?_)))))))))))
            with_reducible refine Rd.cons (Rd.op (Rd.var (by walk_at "vr") (Rd.c (Rd.ixL (by walk_at "hpl") (by walk_at "vr") (Rd.cons (Rd.var (by walk_at "vr") (Rd.nil ?_)))))))
            refine ⟨_, _, _, _, _, _, rfl, ⟨(by walk_at "hp"), (by walk_at "hp"), (by first | omega | (simp only [List.length_append, List.length_cons, List.length_nil] at *; omega))⟩, (by walk_at "hp"), fun H25 S25 => ?_⟩
            with_reducible refine Rd.bl (Rd.iteF (by walk_at "bF") (Rd.next ?_))
            exact ⟨_, _, _, _, _, _, _, _, rfl, (by walk_at "frm"), (by walk_at "hp"), (by walk_at "hp"), (by walk_at "hp"), (by walk_at "hp"), (by walk_at "hp"), (by walk_at "hp"), (by walk_at "hp"), (by walk_at "hp"), (by first | omega | (simp only [List.length_append, List.length_cons, List.length_nil] at *; omega)), (by first | omega | (simp only [List.length_append, List.length_cons, List.length_nil] at *; omega))⟩
          · with_reducible refine Rd.seq (Rd.ifS (Rd.test (Rd.op (Rd.var (by walk_at "vr") (Rd.lst (Rd.nil (Rd.laid (by walk_at "ll") ?_)))))))
            intro p5 np5
            refine ⟨_, _, (by walk_at "dp"), (by walk_at "dp"), (by walk_at "shp"), (by walk_at "shp"), ?_⟩
            with_reducible refine Rd.bl (Rd.iteT (by walk_at "bT") (Rd.asg ?_))
            unfold tBM
            with_reducible refine Rd.var (by walk_at "vr") ?_
            refine ⟨Or.inl ⟨rfl, _, (by walk_at "hpl")⟩, ?_⟩
            with_reducible refine Rd.cons (Rd.c (Rd.nil ?_))
            refine ⟨_, _, _, 0, _, rfl, rfl, (by walk_at "hp"), (by decide), (by decide), (by walk_at "six"), (by walk_at "vr"), ?_⟩
            with_reducible refine Rd.name ?_
            try dsimp only [List.set]
            rw [Rd.mapTail]
            with_reducible refine Rd.ifS (Rd.test (Rd.op (Rd.meth (Rd.op (Rd.var (by walk_at "vr") (Rd.var (by walk_at "vr") (Rd.ixL (by walk_at "hpl") (by walk_at "vr") (⟨_, _, _, rfl, (by walk_at "hp"), (by walk_at "lk"), (Rd.nil ?_)⟩))))))))
            refine ⟨_, _, _, _, rfl, ⟨(by walk_at "hp"), (by walk_at "hp"), (by walk_at "sc")⟩, .inr ⟨_, _, rfl, ?_⟩⟩
            with_reducible refine Rd.var (by walk_at "vr") (Rd.neS (by walk_at "vr") (Rd.bl (Rd.iteF (by walk_at "bF") (Rd.next (Rd.seq (Rd.ifS (Rd.not (Rd.tb (Rd.call (Rd.cons (Rd.op ?_)))))))))))
            with_reducible refine Rd.var (by walk_at "vr") (Rd.c (Rd.ixL (by walk_at "hpl") (by walk_at "vr") (Rd.cons (Rd.op (Rd.var (by walk_at "vr") (Rd.c (Rd.ixL (by walk_at "hpl") (by walk_at "vr") (Rd.cons (Rd.var (by walk_at "vr") (Rd.nil ?_))))))))))
            refine ⟨_, _, _, _, _, _, rfl, ⟨(by walk_at "hp"), (by walk_at "hp"), (by first | omega | (simp only [List.length_append, List.length_cons, List.length_nil] at *; omega))⟩, (by walk_at "hp"), fun H27 S27 => ?_⟩
            with_reducible refine Rd.bl (Rd.iteF (by walk_at "bF") (Rd.next (Rd.ifS (Rd.not (Rd.tb (Rd.call (Rd.cons (Rd.op (Rd.var (by walk_at "vr") (Rd.c (Rd.ixL (by walk_at "hpl") (by walk_at "vr") ?_)))))))))))
            with_reducible refine Rd.cons (Rd.op (Rd.var (by walk_at "vr") (Rd.c (Rd.ixL (by walk_at "hpl") (by walk_at "vr") (Rd.cons (Rd.var (by walk_at "vr") (Rd.nil ?_)))))))
            refine ⟨_, _, _, _, _, _, rfl, ⟨(by walk_at "hp"), (by walk_at "hp"), (by first | omega | (simp only [List.length_append, List.length_cons, List.length_nil] at *; omega))⟩, (by walk_at "hp"), fun H28 S28 => ?_⟩
            with_reducible refine Rd.bl (Rd.iteF (by walk_at "bF") (Rd.next ?_))
            exact ⟨_, _, _, _, _, _, _, _, rfl, (by walk_at "frm"), (by walk_at "hp"), (by walk_at "hp"), (by walk_at "hp"), (by walk_at "hp"), (by walk_at "hp"), (by walk_at "hp"), (by walk_at "hp"), (by walk_at "hp"), (by first | omega | (simp only [List.length_append, List.length_cons, List.length_nil] at *; omega)), (by first | omega | (simp only [List.length_append, List.length_cons, List.length_nil] at *; omega))⟩
    · subst es
      with_reducible refine Rd.ret (Rd.c ?_)
      exact k _
end
theorem all_mk {l : PySem.W.OpenLaw} {w : World} {K : PySem.W.Frag} {h : Heap} {mg : Str → Option Value} {fa f_Queueu__initu_ f_Queue_put f_Queue_take f_Queue_oldest f_Queueu__lenu_ f_Queueu__boolu_ f_Queueu__containsu_ f_l_source f_l_draw f_l_look f_law c_Queue : Addr} (X : K.In h) (G : h.Ns mainGlobals mg) (hfa : mg "law" = some (.ref fa))
    {od_Queueu__initu_ an_Queueu__initu_ : Option Addr} {sl_Queueu__initu_ : Array (Option Value)} {oc_Queueu__initu_ kV_Queueu__initu_ dc_Queueu__initu_ pm_Queueu__initu_ cd_Queueu__initu_ ct_Queueu__initu_ : Value}
    {od_Queue_put an_Queue_put : Option Addr} {sl_Queue_put : Array (Option Value)} {oc_Queue_put kV_Queue_put dc_Queue_put pm_Queue_put cd_Queue_put ct_Queue_put : Value}
    {od_Queue_take an_Queue_take : Option Addr} {sl_Queue_take : Array (Option Value)} {oc_Queue_take kV_Queue_take dc_Queue_take pm_Queue_take cd_Queue_take ct_Queue_take : Value}
    {od_Queue_oldest an_Queue_oldest : Option Addr} {sl_Queue_oldest : Array (Option Value)} {oc_Queue_oldest kV_Queue_oldest dc_Queue_oldest pm_Queue_oldest cd_Queue_oldest ct_Queue_oldest : Value}
    {od_Queueu__lenu_ an_Queueu__lenu_ : Option Addr} {sl_Queueu__lenu_ : Array (Option Value)} {oc_Queueu__lenu_ kV_Queueu__lenu_ dc_Queueu__lenu_ pm_Queueu__lenu_ cd_Queueu__lenu_ ct_Queueu__lenu_ : Value}
    {od_Queueu__boolu_ an_Queueu__boolu_ : Option Addr} {sl_Queueu__boolu_ : Array (Option Value)} {oc_Queueu__boolu_ kV_Queueu__boolu_ dc_Queueu__boolu_ pm_Queueu__boolu_ cd_Queueu__boolu_ ct_Queueu__boolu_ : Value}
    {od_Queueu__containsu_ an_Queueu__containsu_ : Option Addr} {sl_Queueu__containsu_ : Array (Option Value)} {oc_Queueu__containsu_ kV_Queueu__containsu_ dc_Queueu__containsu_ pm_Queueu__containsu_ cd_Queueu__containsu_ ct_Queueu__containsu_ : Value}
    {od_l_source an_l_source : Option Addr} {sl_l_source : Array (Option Value)} {oc_l_source kV_l_source dc_l_source pm_l_source cd_l_source ct_l_source : Value}
    {od_l_draw an_l_draw : Option Addr} {sl_l_draw : Array (Option Value)} {oc_l_draw kV_l_draw dc_l_draw pm_l_draw cd_l_draw ct_l_draw : Value}
    {od_l_look an_l_look : Option Addr} {sl_l_look : Array (Option Value)} {oc_l_look kV_l_look dc_l_look pm_l_look cd_l_look ct_l_look : Value}
    {od_law an_law : Option Addr} {sl_law : Array (Option Value)} {oc_law kV_law dc_law pm_law cd_law ct_law : Value}
    (h_n_len : PySem.W.nsIn K mainGlobals "len" = some none)
    (h_n_int : PySem.W.nsIn K mainGlobals "int" = some none)
    (h_n_abs : PySem.W.nsIn K mainGlobals "abs" = some none)
    (h_n_range : PySem.W.nsIn K mainGlobals "range" = some none)
    (h_n_max : PySem.W.nsIn K mainGlobals "max" = some none)
    (h_n_min : PySem.W.nsIn K mainGlobals "min" = some none)
    (h_n_bool : PySem.W.nsIn K mainGlobals "bool" = some none)
    (h_m_deque : PySem.W.nsIn K mainGlobals "deque" = some (some (.type "collections.deque")))
    (h_m_Queue : PySem.W.nsIn K mainGlobals "Queue" = some (some (.ref c_Queue)))
    (h_n_Queue_values : PySem.W.findIn K (.ref c_Queue) "_values" = some none)
    (h_m_l_source : PySem.W.nsIn K mainGlobals "_law_source" = some (some (.ref f_l_source)))
    (h_m_l_draw : PySem.W.nsIn K mainGlobals "_law_draw" = some (some (.ref f_l_draw)))
    (h_m_l_look : PySem.W.nsIn K mainGlobals "_law_look" = some (some (.ref f_l_look)))
    (h_m_law : PySem.W.nsIn K mainGlobals "law" = some (some (.ref f_law)))
    (h_in_Queue : PySem.W.findIn K (.ref c_Queue) "__init__" = some (some (.ref f_Queueu__initu_)))
    (h_a_Queue_put : PySem.W.findIn K (.ref c_Queue) "put" = some (some (.ref f_Queue_put)))
    (h_a_Queue_take : PySem.W.findIn K (.ref c_Queue) "take" = some (some (.ref f_Queue_take)))
    (h_a_Queue_oldest : PySem.W.findIn K (.ref c_Queue) "oldest" = some (some (.ref f_Queue_oldest)))
    (h_a_Queueu__lenu_ : PySem.W.findIn K (.ref c_Queue) "__len__" = some (some (.ref f_Queueu__lenu_)))
    (h_a_Queueu__boolu_ : PySem.W.findIn K (.ref c_Queue) "__bool__" = some (some (.ref f_Queueu__boolu_)))
    (h_a_Queueu__containsu_ : PySem.W.findIn K (.ref c_Queue) "__contains__" = some (some (.ref f_Queueu__containsu_)))
    (h_l_Queueu__initu_ : K.lookup f_Queueu__initu_ = some ⟨oc_Queueu__initu_, od_Queueu__initu_, .func (PySem.W.fnOf "__init__" "Queue.__init__" (defArgs s_Queueu__initu_) (defBody s_Queueu__initu_) (defScope s_Queueu__initu_) .none kV_Queueu__initu_ dc_Queueu__initu_ pm_Queueu__initu_ an_Queueu__initu_ cd_Queueu__initu_ ct_Queueu__initu_), sl_Queueu__initu_⟩)
    (h_l_Queue_put : K.lookup f_Queue_put = some ⟨oc_Queue_put, od_Queue_put, .func (PySem.W.fnOf "put" "Queue.put" (defArgs s_Queue_put) (defBody s_Queue_put) (defScope s_Queue_put) .none kV_Queue_put dc_Queue_put pm_Queue_put an_Queue_put cd_Queue_put ct_Queue_put), sl_Queue_put⟩)
    (h_l_Queue_take : K.lookup f_Queue_take = some ⟨oc_Queue_take, od_Queue_take, .func (PySem.W.fnOf "take" "Queue.take" (defArgs s_Queue_take) (defBody s_Queue_take) (defScope s_Queue_take) .none kV_Queue_take dc_Queue_take pm_Queue_take an_Queue_take cd_Queue_take ct_Queue_take), sl_Queue_take⟩)
    (h_l_Queue_oldest : K.lookup f_Queue_oldest = some ⟨oc_Queue_oldest, od_Queue_oldest, .func (PySem.W.fnOf "oldest" "Queue.oldest" (defArgs s_Queue_oldest) (defBody s_Queue_oldest) (defScope s_Queue_oldest) .none kV_Queue_oldest dc_Queue_oldest pm_Queue_oldest an_Queue_oldest cd_Queue_oldest ct_Queue_oldest), sl_Queue_oldest⟩)
    (h_l_Queueu__lenu_ : K.lookup f_Queueu__lenu_ = some ⟨oc_Queueu__lenu_, od_Queueu__lenu_, .func (PySem.W.fnOf "__len__" "Queue.__len__" (defArgs s_Queueu__lenu_) (defBody s_Queueu__lenu_) (defScope s_Queueu__lenu_) .none kV_Queueu__lenu_ dc_Queueu__lenu_ pm_Queueu__lenu_ an_Queueu__lenu_ cd_Queueu__lenu_ ct_Queueu__lenu_), sl_Queueu__lenu_⟩)
    (h_l_Queueu__boolu_ : K.lookup f_Queueu__boolu_ = some ⟨oc_Queueu__boolu_, od_Queueu__boolu_, .func (PySem.W.fnOf "__bool__" "Queue.__bool__" (defArgs s_Queueu__boolu_) (defBody s_Queueu__boolu_) (defScope s_Queueu__boolu_) .none kV_Queueu__boolu_ dc_Queueu__boolu_ pm_Queueu__boolu_ an_Queueu__boolu_ cd_Queueu__boolu_ ct_Queueu__boolu_), sl_Queueu__boolu_⟩)
    (h_l_Queueu__containsu_ : K.lookup f_Queueu__containsu_ = some ⟨oc_Queueu__containsu_, od_Queueu__containsu_, .func (PySem.W.fnOf "__contains__" "Queue.__contains__" (defArgs s_Queueu__containsu_) (defBody s_Queueu__containsu_) (defScope s_Queueu__containsu_) .none kV_Queueu__containsu_ dc_Queueu__containsu_ pm_Queueu__containsu_ an_Queueu__containsu_ cd_Queueu__containsu_ ct_Queueu__containsu_), sl_Queueu__containsu_⟩)
    (h_l_l_source : K.lookup f_l_source = some ⟨oc_l_source, od_l_source, .func (PySem.W.fnOf "_law_source" "_law_source" (defArgs s_l_source) (defBody s_l_source) (defScope s_l_source) .none kV_l_source dc_l_source pm_l_source an_l_source cd_l_source ct_l_source), sl_l_source⟩)
    (h_l_l_draw : K.lookup f_l_draw = some ⟨oc_l_draw, od_l_draw, .func (PySem.W.fnOf "_law_draw" "_law_draw" (defArgs s_l_draw) (defBody s_l_draw) (defScope s_l_draw) .none kV_l_draw dc_l_draw pm_l_draw an_l_draw cd_l_draw ct_l_draw), sl_l_draw⟩)
    (h_l_l_look : K.lookup f_l_look = some ⟨oc_l_look, od_l_look, .func (PySem.W.fnOf "_law_look" "_law_look" (defArgs s_l_look) (defBody s_l_look) (defScope s_l_look) .none kV_l_look dc_l_look pm_l_look an_l_look cd_l_look ct_l_look), sl_l_look⟩)
    (h_l_law : K.lookup f_law = some ⟨oc_law, od_law, .func (PySem.W.fnOf "law" "law" (defArgs s_law) (defBody s_law) (defScope s_law) .none kV_law dc_law pm_law an_law cd_law ct_law), sl_law⟩)
    (h_pg_Queue : PySem.W.plainGet K c_Queue Str.empty = true)
    (h_hd_Queue : PySem.W.hasDictIn K c_Queue = true)
    (h_po_Queue : PySem.W.plainOver K c_Queue = true)
    (h_sa_Queue : PySem.W.findIn K (.ref c_Queue) "__setattr__" = some (some (.builtin "object.__setattr__")))
    (h_mk_Queue : PySem.W.makesIn K c_Queue = true)
    (h_ii_Queue : PySem.W.isFn K (.ref f_Queueu__initu_) = true)
    (h_kp_Queue : PySem.W.keepIn K (.ref c_Queue) = true)
    (h_c_Queueu__initu_ : PySem.W.codeIn K cd_Queueu__initu_ "Queue.__init__" = true)
    (h_k_Queueu__initu_ : PySem.W.keepIn K (.ref f_Queueu__initu_) = true)
    (h_i_Queue_put : PySem.W.isFn K (.ref f_Queue_put) = true)
    (h_c_Queue_put : PySem.W.codeIn K cd_Queue_put "Queue.put" = true)
    (h_k_Queue_put : PySem.W.keepIn K (.ref f_Queue_put) = true)
    (h_i_Queue_take : PySem.W.isFn K (.ref f_Queue_take) = true)
    (h_c_Queue_take : PySem.W.codeIn K cd_Queue_take "Queue.take" = true)
    (h_k_Queue_take : PySem.W.keepIn K (.ref f_Queue_take) = true)
    (h_i_Queue_oldest : PySem.W.isFn K (.ref f_Queue_oldest) = true)
    (h_c_Queue_oldest : PySem.W.codeIn K cd_Queue_oldest "Queue.oldest" = true)
    (h_k_Queue_oldest : PySem.W.keepIn K (.ref f_Queue_oldest) = true)
    (h_c_Queueu__lenu_ : PySem.W.codeIn K cd_Queueu__lenu_ "Queue.__len__" = true)
    (h_k_Queueu__lenu_ : PySem.W.keepIn K (.ref f_Queueu__lenu_) = true)
    (h_c_Queueu__boolu_ : PySem.W.codeIn K cd_Queueu__boolu_ "Queue.__bool__" = true)
    (h_k_Queueu__boolu_ : PySem.W.keepIn K (.ref f_Queueu__boolu_) = true)
    (h_c_Queueu__containsu_ : PySem.W.codeIn K cd_Queueu__containsu_ "Queue.__contains__" = true)
    (h_k_Queueu__containsu_ : PySem.W.keepIn K (.ref f_Queueu__containsu_) = true)
    (h_c_l_source : PySem.W.codeIn K cd_l_source "_law_source" = true)
    (h_k_l_source : PySem.W.keepIn K (.ref f_l_source) = true)
    (h_c_l_draw : PySem.W.codeIn K cd_l_draw "_law_draw" = true)
    (h_k_l_draw : PySem.W.keepIn K (.ref f_l_draw) = true)
    (h_c_l_look : PySem.W.codeIn K cd_l_look "_law_look" = true)
    (h_k_l_look : PySem.W.keepIn K (.ref f_l_look) = true)
    (h_c_law : PySem.W.codeIn K cd_law "law" = true)
    (h_k_law : PySem.W.keepIn K (.ref f_law) = true)
    (h_i_Queueu__lenu_ : PySem.W.isFn K (.ref f_Queueu__lenu_) = true)
    (h_i_Queueu__boolu_ : PySem.W.isFn K (.ref f_Queueu__boolu_) = true)
    (h_i_Queueu__containsu_ : PySem.W.isFn K (.ref f_Queueu__containsu_) = true)
    : ∃ fd : FuncData, (∀ (s : Shared) (v : Value), BindsTo s fd ⟨[v], []⟩ [("_law_script", v)]) ∧ ∀ base : Heap, K.In base → base.Ns mainGlobals mg → FnOk l.prog w K mg base CX0 5 fa fd ["_law_script"] (sp_law K) := by
  have e := hfa.symm.trans (PySem.W.mg_of X G h_m_law)
  cases e
  have T : Txt K mg ⟨f_Queueu__initu_, (PySem.W.fnOf "__init__" "Queue.__init__" (defArgs s_Queueu__initu_) (defBody s_Queueu__initu_) (defScope s_Queueu__initu_) .none kV_Queueu__initu_ dc_Queueu__initu_ pm_Queueu__initu_ an_Queueu__initu_ cd_Queueu__initu_ ct_Queueu__initu_), f_Queue_put, (PySem.W.fnOf "put" "Queue.put" (defArgs s_Queue_put) (defBody s_Queue_put) (defScope s_Queue_put) .none kV_Queue_put dc_Queue_put pm_Queue_put an_Queue_put cd_Queue_put ct_Queue_put), f_Queue_take, (PySem.W.fnOf "take" "Queue.take" (defArgs s_Queue_take) (defBody s_Queue_take) (defScope s_Queue_take) .none kV_Queue_take dc_Queue_take pm_Queue_take an_Queue_take cd_Queue_take ct_Queue_take), f_Queue_oldest, (PySem.W.fnOf "oldest" "Queue.oldest" (defArgs s_Queue_oldest) (defBody s_Queue_oldest) (defScope s_Queue_oldest) .none kV_Queue_oldest dc_Queue_oldest pm_Queue_oldest an_Queue_oldest cd_Queue_oldest ct_Queue_oldest), f_Queueu__lenu_, (PySem.W.fnOf "__len__" "Queue.__len__" (defArgs s_Queueu__lenu_) (defBody s_Queueu__lenu_) (defScope s_Queueu__lenu_) .none kV_Queueu__lenu_ dc_Queueu__lenu_ pm_Queueu__lenu_ an_Queueu__lenu_ cd_Queueu__lenu_ ct_Queueu__lenu_), f_Queueu__boolu_, (PySem.W.fnOf "__bool__" "Queue.__bool__" (defArgs s_Queueu__boolu_) (defBody s_Queueu__boolu_) (defScope s_Queueu__boolu_) .none kV_Queueu__boolu_ dc_Queueu__boolu_ pm_Queueu__boolu_ an_Queueu__boolu_ cd_Queueu__boolu_ ct_Queueu__boolu_), f_Queueu__containsu_, (PySem.W.fnOf "__contains__" "Queue.__contains__" (defArgs s_Queueu__containsu_) (defBody s_Queueu__containsu_) (defScope s_Queueu__containsu_) .none kV_Queueu__containsu_ dc_Queueu__containsu_ pm_Queueu__containsu_ an_Queueu__containsu_ cd_Queueu__containsu_ ct_Queueu__containsu_), f_l_source, (PySem.W.fnOf "_law_source" "_law_source" (defArgs s_l_source) (defBody s_l_source) (defScope s_l_source) .none kV_l_source dc_l_source pm_l_source an_l_source cd_l_source ct_l_source), f_l_draw, (PySem.W.fnOf "_law_draw" "_law_draw" (defArgs s_l_draw) (defBody s_l_draw) (defScope s_l_draw) .none kV_l_draw dc_l_draw pm_l_draw an_l_draw cd_l_draw ct_l_draw), f_l_look, (PySem.W.fnOf "_law_look" "_law_look" (defArgs s_l_look) (defBody s_l_look) (defScope s_l_look) .none kV_l_look dc_l_look pm_l_look an_l_look cd_l_look ct_l_look), fa, (PySem.W.fnOf "law" "law" (defArgs s_law) (defBody s_law) (defScope s_law) .none kV_law dc_law pm_law an_law cd_law ct_law), c_Queue⟩ := {
    n_len := PySem.W.mg_none_of X G h_n_len,
    n_int := PySem.W.mg_none_of X G h_n_int,
    n_abs := PySem.W.mg_none_of X G h_n_abs,
    n_range := PySem.W.mg_none_of X G h_n_range,
    n_max := PySem.W.mg_none_of X G h_n_max,
    n_min := PySem.W.mg_none_of X G h_n_min,
    n_bool := PySem.W.mg_none_of X G h_n_bool,
    m_deque := PySem.W.mg_of X G h_m_deque,
    m_Queue := PySem.W.mg_of X G h_m_Queue,
    k_Queue := ⟨h_pg_Queue, h_hd_Queue, h_po_Queue, h_sa_Queue⟩,
    n_Queue_values := h_n_Queue_values,
    K_Queue := ⟨h_mk_Queue, h_in_Queue, h_ii_Queue, h_kp_Queue⟩,
    F_Queueu__initu_ := fun_mk (st := s_Queueu__initu_) h_l_Queueu__initu_ h_c_Queueu__initu_ h_k_Queueu__initu_,
    b_Queueu__initu_ := (fun_mk (st := s_Queueu__initu_) h_l_Queueu__initu_ h_c_Queueu__initu_ h_k_Queueu__initu_).binds fun _ _ _ _ _ _ us hl => match us, hl with | [_], _ => rfl,
    M_Queue_put := ⟨h_a_Queue_put, h_i_Queue_put, h_k_Queue_put⟩,
    F_Queue_put := fun_mk (st := s_Queue_put) h_l_Queue_put h_c_Queue_put h_k_Queue_put,
    b_Queue_put := (fun_mk (st := s_Queue_put) h_l_Queue_put h_c_Queue_put h_k_Queue_put).binds fun _ _ _ _ _ _ us hl => match us, hl with | [_, _], _ => rfl,
    M_Queue_take := ⟨h_a_Queue_take, h_i_Queue_take, h_k_Queue_take⟩,
    F_Queue_take := fun_mk (st := s_Queue_take) h_l_Queue_take h_c_Queue_take h_k_Queue_take,
    b_Queue_take := (fun_mk (st := s_Queue_take) h_l_Queue_take h_c_Queue_take h_k_Queue_take).binds fun _ _ _ _ _ _ us hl => match us, hl with | [_], _ => rfl,
    M_Queue_oldest := ⟨h_a_Queue_oldest, h_i_Queue_oldest, h_k_Queue_oldest⟩,
    F_Queue_oldest := fun_mk (st := s_Queue_oldest) h_l_Queue_oldest h_c_Queue_oldest h_k_Queue_oldest,
    b_Queue_oldest := (fun_mk (st := s_Queue_oldest) h_l_Queue_oldest h_c_Queue_oldest h_k_Queue_oldest).binds fun _ _ _ _ _ _ us hl => match us, hl with | [_], _ => rfl,
    F_Queueu__lenu_ := fun_mk (st := s_Queueu__lenu_) h_l_Queueu__lenu_ h_c_Queueu__lenu_ h_k_Queueu__lenu_,
    b_Queueu__lenu_ := (fun_mk (st := s_Queueu__lenu_) h_l_Queueu__lenu_ h_c_Queueu__lenu_ h_k_Queueu__lenu_).binds fun _ _ _ _ _ _ us hl => match us, hl with | [_], _ => rfl,
    F_Queueu__boolu_ := fun_mk (st := s_Queueu__boolu_) h_l_Queueu__boolu_ h_c_Queueu__boolu_ h_k_Queueu__boolu_,
    b_Queueu__boolu_ := (fun_mk (st := s_Queueu__boolu_) h_l_Queueu__boolu_ h_c_Queueu__boolu_ h_k_Queueu__boolu_).binds fun _ _ _ _ _ _ us hl => match us, hl with | [_], _ => rfl,
    F_Queueu__containsu_ := fun_mk (st := s_Queueu__containsu_) h_l_Queueu__containsu_ h_c_Queueu__containsu_ h_k_Queueu__containsu_,
    b_Queueu__containsu_ := (fun_mk (st := s_Queueu__containsu_) h_l_Queueu__containsu_ h_c_Queueu__containsu_ h_k_Queueu__containsu_).binds fun _ _ _ _ _ _ us hl => match us, hl with | [_, _], _ => rfl,
    m_l_source := PySem.W.mg_of X G h_m_l_source,
    F_l_source := fun_mk (st := s_l_source) h_l_l_source h_c_l_source h_k_l_source,
    b_l_source := (fun_mk (st := s_l_source) h_l_l_source h_c_l_source h_k_l_source).binds fun _ _ _ _ _ _ us hl => match us, hl with | [_, _], _ => rfl,
    m_l_draw := PySem.W.mg_of X G h_m_l_draw,
    F_l_draw := fun_mk (st := s_l_draw) h_l_l_draw h_c_l_draw h_k_l_draw,
    b_l_draw := (fun_mk (st := s_l_draw) h_l_l_draw h_c_l_draw h_k_l_draw).binds fun _ _ _ _ _ _ us hl => match us, hl with | [_, _], _ => rfl,
    m_l_look := PySem.W.mg_of X G h_m_l_look,
    F_l_look := fun_mk (st := s_l_look) h_l_l_look h_c_l_look h_k_l_look,
    b_l_look := (fun_mk (st := s_l_look) h_l_l_look h_c_l_look h_k_l_look).binds fun _ _ _ _ _ _ us hl => match us, hl with | [_, _, _], _ => rfl,
    m_law := PySem.W.mg_of X G h_m_law,
    F_law := fun_mk (st := s_law) h_l_law h_c_law h_k_law,
    b_law := (fun_mk (st := s_law) h_l_law h_c_law h_k_law).binds fun _ _ _ _ _ _ us hl => match us, hl with | [_], _ => rfl,
    O_Queueu__lenu__1 := ⟨h_a_Queueu__lenu_, h_i_Queueu__lenu_⟩,
    O_Queueu__boolu__1 := ⟨h_a_Queueu__boolu_, h_i_Queueu__boolu_⟩,
    O_Queueu__containsu__1 := ⟨h_a_Queueu__containsu_, h_i_Queueu__containsu_⟩ }
  exact ⟨_, fun s v => .of_eq rfl, fun base _ _ => ok_law T⟩
theorem walk {l : PySem.W.OpenLaw} {q : Program} {loose : List Str} {XP : (Str → Option Value) → Heap → Prop} {YP : World → Heap → Prop} {d : DefRec} {K : Params → PySem.W.Frag} (hn : l.most = some 63) (hdf : d.params.defaults = [])
    (hY : ∀ (w : World) (h : Heap), YP w h → (K w.params).In h)
    (F : ∀ (w : World) (mg : Str → Option Value) (fa : Addr) (h : Heap), (K w.params).In h → h.Ns mainGlobals mg → mg d.name = some (.ref fa) →
      ∃ fd : FuncData, (∀ (s : Shared) (u : Value), BindsTo s fd ⟨[u], []⟩ [("_law_script", u)]) ∧ ∀ base : Heap, (K w.params).In base → base.Ns mainGlobals mg → FnOk l.prog w (K w.params) mg base CX0 5 fa fd ["_law_script"] (sp_law (K w.params))) :
    PySem.W.WalkO q loose XP YP l.row.toRowW d [] (fun f vs => PySem.call f vs) :=
  L2.walk_of (n := 63) (k := 5) (x := "_law_script") (CX := fun _ => CX0) (sp := fun w => sp_law (K w.params)) hn (by decide) hdf ⟨rfl, by decide, by decide⟩ hY F (fun _ _ a ns hl _ hS => ⟨a, ns, rfl, hS, hl, fun _ => rfl⟩) fun _ _ _ _ _ z => z
end Pk16
open PySem PySem.W PyProof.Rows
set_option maxRecDepth 100000 in
set_option maxHeartbeats 0 in
theorem PySem.Challenge.cw_ringindexes_k16_queues_in_order_holds : PySem.Challenge.rw_ringindexes_k16_queues_in_order.Holds := by
  w_on; o_law; k_head; (case hw => w_witness2)
  k_fill
  refine Pk16.walk (l := PySem.Challenge.rw_ringindexes_k16_queues_in_order) rfl rfl (fun w h Y => PySem.W.kIn_of Y) ?F
  case F =>
    intro w mg fa h KX G hmg
    refine' Pk16.all_mk KX G hmg ?h_n_len ?h_n_int ?h_n_abs ?h_n_range ?h_n_max ?h_n_min ?h_n_bool ?h_m_deque ?h_m_Queue ?h_n_Queue_values ?h_m_l_source ?h_m_l_draw ?h_m_l_look ?h_m_law ?h_in_Queue ?h_a_Queue_put ?h_a_Queue_take ?h_a_Queue_oldest ?h_a_Queueu__lenu_ ?h_a_Queueu__boolu_ ?h_a_Queueu__containsu_ ?h_l_Queueu__initu_ ?h_l_Queue_put ?h_l_Queue_take ?h_l_Queue_oldest ?h_l_Queueu__lenu_ ?h_l_Queueu__boolu_ ?h_l_Queueu__containsu_ ?h_l_l_source ?h_l_l_draw ?h_l_l_look ?h_l_law ?h_pg_Queue ?h_hd_Queue ?h_po_Queue ?h_sa_Queue ?h_mk_Queue ?h_ii_Queue ?h_kp_Queue ?h_c_Queueu__initu_ ?h_k_Queueu__initu_ ?h_i_Queue_put ?h_c_Queue_put ?h_k_Queue_put ?h_i_Queue_take ?h_c_Queue_take ?h_k_Queue_take ?h_i_Queue_oldest ?h_c_Queue_oldest ?h_k_Queue_oldest ?h_c_Queueu__lenu_ ?h_k_Queueu__lenu_ ?h_c_Queueu__boolu_ ?h_k_Queueu__boolu_ ?h_c_Queueu__containsu_ ?h_k_Queueu__containsu_ ?h_c_l_source ?h_k_l_source ?h_c_l_draw ?h_k_l_draw ?h_c_l_look ?h_k_l_look ?h_c_law ?h_k_law ?h_i_Queueu__lenu_ ?h_i_Queueu__boolu_ ?h_i_Queueu__containsu_
    (case h_n_len => k_is)
    (case h_n_int => k_is)
    (case h_n_abs => k_is)
    (case h_n_range => k_is)
    (case h_n_max => k_is)
    (case h_n_min => k_is)
    (case h_n_bool => k_is)
    (case h_m_deque => k_is)
    (case h_m_Queue => k_is)
    (case h_n_Queue_values => k_is)
    (case h_m_l_source => k_is)
    (case h_m_l_draw => k_is)
    (case h_m_l_look => k_is)
    (case h_m_law => k_is)
    (case h_in_Queue => k_is)
    (case h_a_Queue_put => k_is)
    (case h_a_Queue_take => k_is)
    (case h_a_Queue_oldest => k_is)
    (case h_a_Queueu__lenu_ => k_is)
    (case h_a_Queueu__boolu_ => k_is)
    (case h_a_Queueu__containsu_ => k_is)
    (case h_l_Queueu__initu_ => k_is)
    (case h_l_Queue_put => k_is)
    (case h_l_Queue_take => k_is)
    (case h_l_Queue_oldest => k_is)
    (case h_l_Queueu__lenu_ => k_is)
    (case h_l_Queueu__boolu_ => k_is)
    (case h_l_Queueu__containsu_ => k_is)
    (case h_l_l_source => k_is)
    (case h_l_l_draw => k_is)
    (case h_l_l_look => k_is)
    (case h_l_law => k_is)
    (case h_pg_Queue => k_is)
    (case h_hd_Queue => k_is)
    (case h_po_Queue => k_is)
    (case h_sa_Queue => k_is)
    (case h_mk_Queue => k_is)
    (case h_ii_Queue => k_is)
    (case h_kp_Queue => k_is)
    (case h_c_Queueu__initu_ => k_is)
    (case h_k_Queueu__initu_ => k_is)
    (case h_i_Queue_put => k_is)
    (case h_c_Queue_put => k_is)
    (case h_k_Queue_put => k_is)
    (case h_i_Queue_take => k_is)
    (case h_c_Queue_take => k_is)
    (case h_k_Queue_take => k_is)
    (case h_i_Queue_oldest => k_is)
    (case h_c_Queue_oldest => k_is)
    (case h_k_Queue_oldest => k_is)
    (case h_c_Queueu__lenu_ => k_is)
    (case h_k_Queueu__lenu_ => k_is)
    (case h_c_Queueu__boolu_ => k_is)
    (case h_k_Queueu__boolu_ => k_is)
    (case h_c_Queueu__containsu_ => k_is)
    (case h_k_Queueu__containsu_ => k_is)
    (case h_c_l_source => k_is)
    (case h_k_l_source => k_is)
    (case h_c_l_draw => k_is)
    (case h_k_l_draw => k_is)
    (case h_c_l_look => k_is)
    (case h_k_l_look => k_is)
    (case h_c_law => k_is)
    (case h_k_law => k_is)
    (case h_i_Queueu__lenu_ => k_is)
    (case h_i_Queueu__boolu_ => k_is)
    (case h_i_Queueu__containsu_ => k_is)
