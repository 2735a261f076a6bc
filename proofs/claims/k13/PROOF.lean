import PyProof.Rows.All
import Wide.All
import OpenK.AllK
import Wide.FinOn
import PyProof.EqAt
import PyProof.EqKinds
import PyProof.TupleCall
import PyProof.InstNe
import KE.RegKIsAll
import HandS.ForMost
import HandS.Wide
import HandS.IsInst
import HandS.OwnEq
import HandS.Star
import HandS.Property
import HandS.Defaults
import HandS.WordsExc
import HandS.ExcOwn
import HandS.TupLe
import HandS.SortKw
import KE.KMinBuiltin
import HandS.TryOnly
import HandS.ExcIs
import HandS.CallLocal
import HandS.Walk
import HandS.StrMore
import HandS.FStr
import HandS.NoneIn
import HandS.SetFor
import PyProof.StrLaws
import HandS.Small
import HandS.StrSplit
import HandS.MakeKwOnly
import HandS.More
import HandS.WideBits
import PySem.Challenge.RW_ringindexes_k13_whole_gaps_of_great_ring
set_option Elab.async false
set_option linter.all false
set_option maxRecDepth 100000
set_option maxHeartbeats 40000000
/-! ## steps of readings: each lemma opens one construct -/
namespace Rd
open PySem PySem.Spec PyProof.Rows L2

section
variable {σ : L2.St} {H : Hp} {Q : VK} {D : Ends} {K : PySem.W.Frag}
theorem seq {t u : TS} (h : t { D with nx := u D } σ H) : tSeq t u D σ H := h
theorem next (h : D.nx σ H) : tNext D σ H := h
theorem drop {te : TE} (h : te σ H fun _ H1 => D.nx σ H1) : tDrop te D σ H := h
theorem ret {te : TE} (h : te σ H D.rt) : tRet te D σ H := h
theorem ifS {c : TT} {t u : TS} (h : c σ H fun b H1 => if b = true then t D σ H1 else u D σ H1) : tIfS c t u D σ H := h
theorem asg {te : TE} {g : TG} (h : te σ H fun x H1 => g x σ H1 D.nx) : tAsg te g D σ H := h
theorem name {i : Nat} {v : V} {q : L2.St → Hp → Prop} (h : q (σ.set i (some v)) H) : gName i v σ H q := h
theorem var {i : Nat} {v : V} (e : σ[i]? = some (some v)) (h : Q v H) : tVar i σ H Q := ⟨v, e, h⟩
theorem c {v : V} (h : Q v H) : tC v σ H Q := h
theorem op {r : R2} {ta tb : TE} (h : ta σ H fun x H1 => tb σ H1 fun y H2 => r x y H2 Q) : tOp r ta tb σ H Q := h
theorem un {r : V → Hp → VK → Prop} {ta : TE} (h : ta σ H fun x H1 => r x H1 Q) : tUn r ta σ H Q := h
theorem i0 {g : Int → Int → V} {i j : Int} (h : Q (g i j) H) : rI0 g (.int i) (.int j) H Q := ⟨i, j, rfl, rfl, h⟩
theorem iC {C : Int → Int → Prop} {g : Int → Int → V} {i j : Int} (e : C i j) (h : Q (g i j) H) : rI C g (.int i) (.int j) H Q := ⟨i, j, rfl, rfl, e, h⟩
theorem iU {g : Int → V} {i : Int} (h : Q (g i) H) : rU g (.int i) H Q := ⟨i, rfl, h⟩
theorem eqS {x y : V} (e : scal x y = true) (h : Q (.bl (decide (x = y))) H) : rEq x y H Q := ⟨e, h⟩
theorem neS {x y : V} (e : scal x y = true) (h : Q (.bl (!decide (x = y))) H) : rNe x y H Q := ⟨e, h⟩
theorem chain {r r' : R2} {ta tb tc : TE} (h : ta σ H fun x H1 => tb σ H1 fun y H2 => r x y H2 fun z H3 => ∃ k, z = .bl k ∧ (if k = true then tc σ H3 fun w' H4 => r' y w' H4 Q else Q (.bl false) H3)) : tChain r r' ta tb tc σ H Q := h
theorem bl {k : Bool} {A : Bool → Prop} (h : A k) : ∃ c, V.bl k = .bl c ∧ A c := ⟨k, rfl, h⟩
theorem test {t : TE} {q : Bool → Hp → Prop} (h : t σ H fun x H' => ∃ k, x = .bl k ∧ q k H') : tTest t σ H q := h
theorem tb {t : TE} {q : Bool → Hp → Prop} (h : t σ H fun x H' => ∃ k, x = .bl k ∧ q k H') : tB t σ H q := h
theorem and {t u : TT} {q : Bool → Hp → Prop} (h : t σ H fun c H1 => if c = true then u σ H1 q else q false H1) : tAnd t u σ H q := h
theorem or {t u : TT} {q : Bool → Hp → Prop} (h : t σ H fun c H1 => if c = true then q true H1 else u σ H1 q) : tOr t u σ H q := h
theorem not {t : TT} {q : Bool → Hp → Prop} (h : t σ H fun c H1 => q (!c) H1) : tNot t σ H q := h
theorem andV {ta tb : TE} (h : ta σ H fun x H1 => ∃ c, x = .bl c ∧ if c = true then tb σ H1 Q else Q (.bl false) H1) : tAndV ta tb σ H Q := h
theorem orV {ta tb : TE} (h : ta σ H fun x H1 => ∃ c, x = .bl c ∧ if c = true then Q (.bl true) H1 else tb σ H1 Q) : tOrV ta tb σ H Q := h
theorem notV {ta : TE} (h : ta σ H fun x H1 => ∃ c, x = .bl c ∧ Q (.bl (!c)) H1) : tNotV ta σ H Q := h
theorem nil {q : List V → Hp → Prop} (h : q [] H) : tNil σ H q := h
theorem cons {ta : TE} {tr : TA} {q : List V → Hp → Prop} (h : ta σ H fun x H1 => tr σ H1 fun xs H2 => q (x :: xs) H2) : tCons ta tr σ H q := h
theorem cB {r : List V → Hp → VK → Prop} {t : TA} (h : t σ H fun vs H1 => r vs H1 Q) : tCB r t σ H Q := h
theorem tup {t : TA} (h : t σ H fun xs H1 => xs.length ≤ sizeLine ∧ ∀ p, H1 p = none → Q (.ref p) (upd H1 p (.tup xs))) : tTup t σ H Q := h
theorem lst {t : TA} (h : t σ H fun xs H1 => xs.length ≤ sizeLine ∧ ∀ p, H1 p = none → Q (.ref p) (upd H1 p (.lst xs))) : tLst t σ H Q := h
theorem laid {xs : List V} {A : Addr → Prop} (e : xs.length ≤ 1000) (h : ∀ p, H p = none → A p) : xs.length ≤ sizeLine ∧ ∀ p, H p = none → A p := ⟨Nat.le_of_lt (small1000 e), h⟩
theorem call {sp : Sp} {dvs : List V} {E : XK} {t : TA} (h : t σ H fun vs H1 => sp (vs ++ dvs) H1 Q E) : tCall sp dvs E t σ H Q := h
theorem make {C : Addr} {sp : Sp} {dvs : List V} {E : XK} {t : TA} (h : t σ H fun vs H1 => ∀ x dx, H1 x = none → H1 dx = none → dx ≠ x → sp (.ref x :: (vs ++ dvs)) (upd (upd H1 dx (.own x)) x (.ins C dx [])) (fun v H2 => v = .non ∧ Q (.ref x) H2) E) : tMake C sp dvs E t σ H Q := h
theorem fld {ta : TE} {f : Str} (h : ta σ H fun x H1 => ∃ a C dx fs v, x = .ref a ∧ H1 a = some (.ins C dx fs) ∧ Cls K C ∧ NoAttr K C f ∧ fs.lookup f = some v ∧ Q v H1) : tFld K ta f σ H Q := h
theorem sfld {ta tv : TE} {f : Str} (h : tv σ H fun y H1 => ta σ H1 fun x H2 => ∃ a C dx fs, x = .ref a ∧ H2 a = some (.ins C dx fs) ∧ Cls K C ∧ NoAttr K C f ∧ fs.length < 1000 ∧ D.nx σ (upd H2 a (.ins C dx (putF f y fs)))) : sFld K ta tv f D σ H := h
theorem gnil {q : L2.St → Hp → Prop} (h : q σ H) : gNil [] σ H q := ⟨rfl, h⟩
theorem gcons {t : TG} {u : TGs} {v : V} {r : List V} {q : L2.St → Hp → Prop} (h : t v σ H fun σ' H' => u r σ' H' q) : gCons t u (v :: r) σ H q := ⟨v, r, rfl, h⟩
theorem gtup {n : Nat} {t : TGs} {a : Addr} {xs : List V} {q : L2.St → Hp → Prop} (e : SqT K H a xs) (l : xs.length = n) (h : t xs σ H q) : gTup K n t (.ref a) σ H q := ⟨a, xs, rfl, e, l, h⟩
theorem fr {wi : TI} {g : TG} {tb : TS} (h : wi σ H fun J H1 => ∃ W : Nat → Nat → L2.St → Hp → Prop, (∃ m, W 0 m σ H1) ∧ ∀ i m σ H, W i m σ H →
    (J.stop i H ∧ D.nx σ H) ∨ (J.go i H ∧ ∃ N : L2.St → Hp → Prop, (∀ σ' H', N σ' H' → ∃ m', m' < m ∧ W (i + 1) m' σ' H') ∧ ∀ x H', J.yld i H x H' → g x σ H' fun σ2 H2 => tb { D with nx := N, ct := N, bk := D.nx } σ2 H2)) : tFor wi g tb D σ H := h
theorem rng1 {ta : TA} {R : It → Hp → Prop} (h : ta σ H fun vs H1 => ∃ j : Int, vs = [.int j] ∧ -(2 ^ 62) ≤ j ∧ j < 2 ^ 62 ∧ R (Itr 0 j.toNat) H1) : iRng1 ta σ H R := h
theorem prop {C : Addr} {sp : Sp} {dvs : List V} {E : XK} {ta : TE} (h : ta σ H fun x H1 => ∃ a dx fs, x = .ref a ∧ H1 a = some (.ins C dx fs) ∧ sp (.ref a :: dvs) H1 Q E) : tProp C sp dvs E ta σ H Q := h
theorem ixL {a : Addr} {xs : List V} {i : Int} {v : V} (e : SqL K H a xs) (l : atI xs i = some v) (h : Q v H) : rIxL K (.ref a) (.int i) H Q := ⟨a, xs, i, v, rfl, rfl, e, l, h⟩
theorem ixT {a : Addr} {xs : List V} {i : Int} {v : V} (e : SqT K H a xs) (l : atI xs i = some v) (h : Q v H) : rIxT K (.ref a) (.int i) H Q := ⟨a, xs, i, v, rfl, rfl, e, l, h⟩
theorem setL {a : Addr} {xs : List V} {k : Int} {j : Nat} {v : V} {q : Hp → Prop} (e : H a = some (.lst xs)) (l : ixN xs.length k = some j) (h : q (upd H a (.lst (xs.set j v)))) : rSetL (.ref a) (.int k) v H q := ⟨a, xs, k, j, rfl, rfl, e, l, h⟩
theorem sub {to ti : TE} {t : TSet} {v : V} {q : L2.St → Hp → Prop} (h : to σ H fun o H1 => ti σ H1 fun i H2 => t o i v H2 fun H3 => q σ H3) : gSub to ti t v σ H q := h
theorem ite {c A B : Prop} [Decidable c] (h1 : c → A) (h2 : ¬ c → B) : if c then A else B := by
  by_cases h : c
  · rw [if_pos h]; exact h1 h
  · rw [if_neg h]; exact h2 h
theorem iteT {b : Bool} {A B : Prop} (e : b = true) (h : A) : if b = true then A else B := by rw [if_pos e]; exact h
theorem iteF {b : Bool} {A B : Prop} (e : b = false) (h : B) : if b = true then A else B := by rw [e]; exact h
end
theorem ty_tup {K : PySem.W.Frag} {H : Hp} {a : Addr} {xs : List V} (e : H a = some (.tup xs)) : TyX K H (.ref a) (.type "tuple") := .base (.tup e)
section
variable {K : PySem.W.Frag}
end
end Rd


/-! ## the operators of own classes, as rules of the layer -/
namespace Own
open PySem PySem.Spec PyProof.Rows L2
section
variable {X : Cx} {pins : List (Addr × Obj)} {σ : L2.St} {H : Hp} {s : Shared}
end

/-- an own method behind an operator -/
structure Sp1 (K : PySem.W.Frag) (C : Addr) (m : Str) (f : Addr) : Prop where
  at_ : PySem.W.findIn K (.ref C) m = some (some (.ref f))
  fn : PySem.W.isFn K (.ref f) = true
/-- a two-place operator of an own class -/
structure Bin (K : PySem.W.Frag) (C f : Addr) (op : Operator) : Prop where
  first : PySem.W.selfFirst K C = true
  at_ : PySem.W.findIn K (.ref C) (PySem.dunder op.info.2) = some (some (.ref f))
  fn : PySem.W.isFn K (.ref f) = true
/-- .. beside a value of the built-in type T -/
structure BinT (K : PySem.W.Frag) (C f : Addr) (op : Operator) (T : String) : Prop where
  b : Bin K C f op
  r : ∃ rc, PySem.W.findIn K (.ref C) (dunderR op.info.2) = some rc ∧ (rc = none ∨ ∃ g : Addr, rc = some (.ref g))
  l1 : ∃ fo, PySem.W.findIn K (.type T) (PySem.dunder op.info.2) = some fo
  l2 : ∃ ro, PySem.W.findIn K (.type T) (dunderR op.info.2) = some ro
  sub : PySem.W.subIn K (.type T) (.ref C) = some false

def rSame (C : Addr) (sp : Sp) (E : XK) : R2 := fun x y H Q => ∃ a b dx dy fs gs, x = .ref a ∧ y = .ref b ∧ H a = some (.ins C dx fs) ∧ H b = some (.ins C dy gs) ∧ sp [.ref a, .ref b] H Q E
def rLeft (C : Addr) (T : String) (sp : Sp) (E : XK) : R2 := fun x y H Q => ∃ a dx fs, x = .ref a ∧ H a = some (.ins C dx fs) ∧ (∀ u, RelV y u → typeOf u = pure (.type T)) ∧ sp [.ref a, y] H Q E
def rCmp (K : PySem.W.Frag) (C : Addr) (sp : Sp) (E : XK) : R2 := fun x y H Q => ∃ a dx fs t, x = .ref a ∧ H a = some (.ins C dx fs) ∧ TyX K H y t ∧ PySem.W.notFirst K C t = true ∧ sp [.ref a, y] H Q E
def rOne (C : Addr) (sp : Sp) (E : XK) : V → Hp → VK → Prop := fun x H Q => ∃ a dx fs, x = .ref a ∧ H a = some (.ins C dx fs) ∧ sp [.ref a] H Q E

section
variable {X : Cx} {CX : CXT} {k : Nat} {f C : Addr} {fd : FuncData} {ps : List Str} {sp : Sp} {E : XK} {op : Operator} {cop : CmpOp} {T : String}
end
end Own
/-! ## int op own: the reflected operator; != by the inherited rule over the own ==; len; a call of an instance -/
namespace Own
open PySem PySem.Spec PyProof.Rows
section
variable {prog : Program} {w : World} {A : Around} {E : Value → Shared → Prop} {s : Shared} {K : PySem.W.Frag} {x C dx f : Addr} {od : Option Obj}
end
end Own
namespace Own
open PySem PySem.Spec PyProof.Rows
section
variable {prog : Program} {w : World} {A : Around} {E : Value → Shared → Prop} {s : Shared} {K : PySem.W.Frag} {x C dx f f0 : Addr} {od : Option Obj} {op : Operator} {id : String}
end
end Own
namespace Own
open PySem PySem.Spec PyProof.Rows
section
variable {prog : Program} {w : World} {A : Around} {E : Value → Shared → Prop} {s : Shared} {K : PySem.W.Frag} {x C dx f : Addr} {od : Option Obj} {b tb : Value}
end
end Own
namespace Own
open PySem PySem.Spec PyProof.Rows L2
section
variable {X : Cx} {CX : CXT} {k : Nat} {f f0 C : Addr} {fd : FuncData} {ps : List Str} {sp : Sp} {E : XK} {op : Operator}
structure BinR (K : PySem.W.Frag) (C f : Addr) (op : Operator) : Prop where
  first : PySem.W.selfFirst K C = true
  l : ∃ f0 : Addr, PySem.W.findIn K (.ref C) (PySem.dunder op.info.2) = some (some (.ref f0))
  at_ : PySem.W.findIn K (.ref C) (dunderR op.info.2) = some (some (.ref f))
  fn : PySem.W.isFn K (.ref f) = true
  sub : PySem.W.subIn K (.ref C) (.type "int") = some false
def rRight (C : Addr) (sp : Sp) (E : XK) : R2 := fun x y H Q => ∃ i a dx fs, x = .int i ∧ y = .ref a ∧ H a = some (.ins C dx fs) ∧ sp [.ref a, .int i] H Q E
structure Ne (K : PySem.W.Frag) (C f : Addr) : Prop where
  ne : PySem.W.findIn K (.ref C) "__ne__" = some (some (.builtin "object.__ne__"))
  eq : PySem.W.findIn K (.ref C) "__eq__" = some (some (.ref f))
  fn : PySem.W.isFn K (.ref f) = true
  ob : PySem.W.subIn K (.ref C) (.type "object") = some true
def rNeOwn (K : PySem.W.Frag) (C : Addr) (sp : Sp) (E : XK) : R2 := fun x y H Q => ∃ a dx fs t, x = .ref a ∧ H a = some (.ins C dx fs) ∧ TyX K H y t ∧ PySem.W.notFirst K C t = true ∧ sp [.ref a, y] H (fun v H' => ∃ b, v = .bl b ∧ Q (.bl (!b)) H') E
end
def rIop (C : Addr) (sp : Sp) (E : XK) : R2 := fun x y H Q => ∃ a dx fs, x = .ref a ∧ H a = some (.ins C dx fs) ∧ sp [.ref a, y] H Q E
/-- f(e, ..), f an expression that gives an instance of C: the reading speaks of the heap alone -/
def tCallI (C : Addr) (sp : Sp) (E : XK) (tf : TE) (t : TA) : TE := fun σ H Q => tf σ H fun y H1 => ∃ a, y = V.ref a ∧ t σ H1 fun vs H2 => (∃ dx fs, H2 a = some (.ins C dx fs)) ∧ sp (V.ref a :: vs) H2 Q E
section
variable {σ : L2.St} {H : Hp} {Q : VK} {C : Addr} {sp : Sp} {E : XK}
end
end Own
/-! ## lists made of lists, and what == says of ints -/
namespace Rd
open PySem PySem.Spec PyProof.Rows L2
theorem lc {wi : TI} {g : TG} {tt : TT} {te : TE} {vs : List Nat} {σ : L2.St} {H : Hp} {Q : VK} (h : wi σ H fun J H1 => ∀ D, H1 D = none → ∃ W : Nat → Nat → Hp → Prop, (∃ m, W 0 m (upd H1 D (.lst []))) ∧ ∀ i m H, W i m H →
    (J.stop i H ∧ Q (.ref D) H) ∨ (J.go i H ∧ ∃ Nx : Hp → Prop, (∀ H', Nx H' → ∃ m', m' < m ∧ W (i + 1) m' H') ∧ ∀ x H', J.yld i H x H' → g x (wipe σ vs) H' fun σ2 H2 => wipe σ2 vs = wipe σ vs ∧ tt σ2 H2 fun b H3 =>
      if b = true then te σ2 H3 fun y H4 => ∃ acc, H4 D = some (.lst acc) ∧ acc.length < sizeLine ∧ Nx (upd H4 D (.lst (acc ++ [y]))) else Nx H3)) : tLc wi g tt te vs σ H Q := h
theorem il {K : PySem.W.Frag} {tl : TE} {σ : L2.St} {H : Hp} {R : It → Hp → Prop} (h : tl σ H fun x H1 => ∃ a, x = .ref a ∧ (∃ xs, SqL K H1 a xs) ∧ R (Itl K a) H1) : iList K tl σ H R := h
theorem isi {X : Cx} {K : PySem.W.Frag} (e : X.K = K) : CallR X (.builtin "isinstance") (rIsi K) := e ▸ call_isi
end Rd
/-! ## pairs in order, lists of truths -/
namespace Rd
open PySem PySem.Spec PyProof.Rows L2
/-- what an order of pairs says: rr of the first unlike parts, z where all are alike -/
def rPr (K : PySem.W.Frag) (z : Bool) (rr : Int → Int → Bool) : R2 := fun x y H Q => ∃ (p q : Addr) (a b c d : Int), x = .ref p ∧ y = .ref q ∧ SqT K H p [.int a, .int b] ∧ SqT K H q [.int c, .int d] ∧ Q (.bl (if a = c then (if b = d then z else rr b d) else rr a c)) H
section
variable {K : PySem.W.Frag} {H : Hp} {p q : Addr} {a b c d : Int} {Q : VK}
end
theorem it {K : PySem.W.Frag} {tl : TE} {σ : L2.St} {H : Hp} {R : It → Hp → Prop} (h : tl σ H fun x H1 => ∃ a, x = .ref a ∧ (∃ xs, SqT K H1 a xs) ∧ R (Itt K a) H1) : iTup K tl σ H R := h
end Rd
/-! ## max(xs, key=int) of a list of ints -/
namespace MxK
open PySem PySem.Spec PyProof.Rows L2
section
variable {prog : Program} {w : World} {A : Around} {E : Value → Shared → Prop} {s : Shared} {l I S : Addr} {vs : List Value} {ns : List Int} {Z : Result → Shared → Prop}
/-- what the walk keeps: the older objects, the best with its key in S, the walker's place in I -/
structure St (s : Shared) (l I S : Addr) (h : Heap) (j : Nat) (M : Int) (tv tb : Tok) : Prop where
  old : ∀ b o, s.heap.get? b = some o → h.get? b = some o
  sto : ∃ c, h.get? S = some (seqObj "list" #[.int M tv, .int M tb] c)
  itr : h.IsListIter I l j
end
def rMaxK (K : PySem.W.Frag) : List V → List V → Hp → VK → Prop := fun vs zs H Q => ∃ (a : Addr) (ns : List Int), vs = [V.ref a] ∧ zs = [.ty "int"] ∧ SqL K H a (ns.map V.int) ∧ 0 < ns.length ∧ ∀ m, m ∈ ns → (∀ y, y ∈ ns → y ≤ m) → Q (.int m) H
end MxK
/-! ## an object of a built-in type without the number's slot, left of an own instance -/
namespace Own
open PySem PySem.Spec PyProof.Rows
section
variable {prog : Program} {w : World} {A : Around} {E : Value → Shared → Prop} {s : Shared} {K : PySem.W.Frag} {x C dx f f0 : Addr} {od : Option Obj} {op : Operator} {T : String}
end
end Own
namespace Own
open PySem PySem.Spec PyProof.Rows L2
section
variable {prog : Program} {w : World} {A : Around} {E : Value → Shared → Prop} {s : Shared} {K : PySem.W.Frag} {x C dx f f0 : Addr} {od : Option Obj} {op : Operator} {T : String}
end
section
variable {X : Cx} {CX : CXT} {k : Nat} {f C : Addr} {fd : FuncData} {ps : List Str} {sp : Sp} {E : XK} {op : Operator} {Ts : List String}
/-- built-in types that have no number's slot -/
structure NoSlot (K : PySem.W.Frag) (op : Operator) (T : String) : Prop where
  l : ∃ fo ro, PySem.W.findIn K (.type T) (PySem.dunder op.info.2) = some fo ∧ PySem.W.findIn K (.type T) (dunderR op.info.2) = some ro ∧ ((fo.isSome && !isSeqSlot fo) || (ro.isSome && !isSeqSlot ro)) = false
/-- any object of such a type left of an own instance: the reflected operator is asked -/
def rOddL (K : PySem.W.Frag) (C : Addr) (Ts : List String) (sp : Sp) (E : XK) : R2 := fun x y H Q => ∃ a dx fs T, y = .ref a ∧ H a = some (.ins C dx fs) ∧ T ∈ Ts ∧ TyX K H x (.type T) ∧ sp [.ref a, x] H Q E
/-- any object of such a type right of an own instance -/
def rOddR (K : PySem.W.Frag) (C : Addr) (Ts : List String) (sp : Sp) (E : XK) : R2 := fun x y H Q => ∃ a dx fs T, x = .ref a ∧ H a = some (.ins C dx fs) ∧ T ∈ Ts ∧ TyX K H y (.type T) ∧ sp [.ref a, y] H Q E
end
end Own
namespace Own
open PySem PySem.Spec PyProof.Rows
section
variable {prog : Program} {w : World} {A : Around} {E : Value → Shared → Prop} {s : Shared} {K : PySem.W.Frag} {x C dx f f0 : Addr} {od : Option Obj} {op : Operator} {id : String}
end
end Own
namespace Own
open PySem PySem.Spec PyProof.Rows
section
variable {prog : Program} {w : World} {A : Around} {E : Value → Shared → Prop} {s : Shared} {K : PySem.W.Frag} {x C dx f f0 : Addr} {od : Option Obj} {op : Operator} {id : String}
end
end Own
namespace Own
open PySem PySem.Spec PyProof.Rows L2
section
variable {X : Cx} {CX : CXT} {k : Nat} {f C : Addr} {fd : FuncData} {ps : List Str} {sp : Sp} {E : XK} {op : Operator}
def rRightB (C : Addr) (sp : Sp) (E : XK) : R2 := fun x y H Q => ∃ i a dx fs, x = .bl i ∧ y = .ref a ∧ H a = some (.ins C dx fs) ∧ sp [.ref a, .bl i] H Q E
end
end Own
/-! ## [x for x, b in zip(xs, bs) if b], bs a list of truths -/
namespace Rd
open PySem PySem.Spec PyProof.Rows L2
end Rd
/-! ## isinstance of a caught error whatever its class; a call of a def that a name holds, whatever it is -/
namespace Ex2
open PySem PySem.Spec PyProof.Rows L2
def rIsE2 (K : PySem.W.Frag) (cls : Value) (d : Option Addr) (a : Addr) : List V → Hp → VK → Prop := fun xs H Q => ∃ D, cls = .ref D ∧ d = none ∧ ExcC K D ∧ rIsE K D a xs H Q
/-- a def at f keeps sp, and may let errors out as sp says -/
structure HeldX (P : Program) (w : World) (K : PySem.W.Frag) (mg : Str → Option Value) (base : Heap) (k : Nat) (f : Addr) (sp : Sp) : Prop where
  ex : ∃ (j : Nat) (fd : FuncData) (ps : List Str), j ≤ k ∧ FnOk P w K mg base (L2.CX P w) j f fd ps sp ∧ PySem.W.keepIn K (.ref f) = true ∧ Binds K fd ps []
def tCallX (P : Program) (w : World) (K : PySem.W.Frag) (mg : Str → Option Value) (base : Heap) (k i : Nat) (E : L2.St → XK) (t : TA) : TE := fun σ H Q => ∃ f sp, HeldX P w K mg base k f sp ∧ σ[i]? = some (some (.ref f)) ∧ t σ H fun vs H1 => sp vs H1 Q (E σ)
section
variable {X : Cx} {k i : Nat} {E : L2.St → XK} {x : Str} {p pos : Pos} {e : Expr} {es : List Expr} {t : TA}
end
end Ex2
/-! ## objects that are no integers; loops over written lists; one item of a list of anything -/
namespace Rd
open PySem PySem.Spec PyProof.Rows L2
def TS1 : List String := ["NoneType", "tuple", "list", "dict"]
/-- an address is marked as the source's -/
def IsSrc (_ : Addr) : Prop := True
def TS0 : List String := ["NoneType", "str", "tuple", "list", "dict"]
/-- none, a text, a tuple, a list of another length than two, a dict -/
inductive OddN (H : Hp) : V → Prop where
  | non : OddN H .non
  | str (x : Str) : OddN H (.str x)
  | tup {p : Addr} {xs : List V} (e : H p = some (.tup xs)) : OddN H (.ref p)
  | lst {p : Addr} {xs : List V} (e : H p = some (.lst xs)) (n : xs.length ≠ 2) : OddN H (.ref p)
  | dK {p : Addr} {kvs : List (Key × V)} (e : H p = some (.dK kvs)) : OddN H (.ref p)
/-- .. or a truth -/
def OddV (H : Hp) (v : V) : Prop := OddN H v ∨ ∃ b, v = .bl b
/-- a loop over a list that is known whole, turn by turn -/
def unr (K : PySem.W.Frag) (a : Addr) (all : List V) (g : TG) (tb : TS) (D : Ends) : List V → L2.St → Hp → Prop
  | [], σ, H => D.nx σ H
  | x :: xs, σ, H => g x σ H fun σ2 H2 => tb { D with nx := fun σ' H' => SqL K H' a all ∧ unr K a all g tb D xs σ' H', ct := fun σ' H' => SqL K H' a all ∧ unr K a all g tb D xs σ' H', bk := D.nx } σ2 H2
end Rd
/-! ## static methods, called by their class; a def's promise that is its own body; small helpers -/
namespace Sta
open PySem PySem.Spec PyProof.Rows L2
structure SMet (K : PySem.W.Frag) (C : Addr) (m : Str) (f : Addr) : Prop where
  rd : PySem.W.readsIn K C (.type "type") = true
  ga : PySem.W.specialIn K (.ref C) "__getattribute__" = some (some (.builtin "type.__getattribute__"))
  at_ : ∃ p rest, PySem.W.findCls K (.ref C) (.type "type") m = some (.get (.builtin "staticmethod.__get__") (.ref p) .none (.ref C)) ∧ PySem.W.recIn K p "staticmethod" = some (.ref f :: rest)
  kp : PySem.W.keepIn K (.ref f) = true
def tSMeth (C : Addr) (sp : Sp) (dvs : List V) (E : XK) (ta : TE) (t : TA) : TE := fun σ H Q => ta σ H fun x H1 => x = .ref C ∧ t σ H1 fun vs H2 => sp (vs ++ dvs) H2 Q E
section
variable {X : Cx} {CX : CXT} {k : Nat} {C f : Addr} {fd : FuncData} {ps : List Str} {ds : List Value} {dvs : List V} {sp : Sp} {E : XK} {o e : Expr} {es : List Expr} {m : Str} {pos apos : Pos} {ta : TE} {t : TA} {pl : Sem Bool}
end
end Sta
namespace Rd
open PySem PySem.Spec PyProof.Rows L2
section
variable {σ : L2.St} {H : Hp} {Q : VK} {D : Ends} {K : PySem.W.Frag}
theorem chainP {r' : R2} {tc : TE} {y : V} {c d : Bool} (h1 : ∀ Q' : VK, Q' (.bl d) H → tc σ H fun w' H4 => r' y w' H4 Q') (h : Q (.bl (c && d)) H) : if c = true then tc σ H (fun w' H4 => r' y w' H4 Q) else Q (.bl false) H := by
  cases c with
  | true => exact h1 Q h
  | false => exact h
theorem peN {X : Cx} {e : Expr} : PE X e (fun _ _ _ => False) := ⟨fun _ _ _ _ _ _ z => z.elim⟩
theorem ptN {X : Cx} {e : Expr} : PT X e (fun _ _ _ => False) := ⟨fun _ _ _ _ _ _ z => z.elim⟩
end
end Rd
/-! ## counting truths in a list -/
namespace Cnt
open PySem PySem.Spec PyProof.Rows L2
def isB (k : Bool) : Value → Bool
  | .bool b => b == k
  | _ => false
section
variable {X : Cx}
def rCntB (K : PySem.W.Frag) : V → List V → Hp → VK → Prop := fun x xs H Q => ∃ (p : Addr) (bs : List Bool) (k : Bool), x = .ref p ∧ xs = [.bl k] ∧ SqL K H p (bs.map V.bl) ∧ Q (.int (bs.count k : Nat)) H
end
end Cnt
/-! ## comprehensions over written sources, item by item; ways joined behind an if -/
namespace Rd
open PySem PySem.Spec PyProof.Rows L2
/-- what is left of a comprehension, item by item; st says that the source stands -/
def Rem (D : Addr) (g : TG) (tt : TT) (te : TE) (vs : List Nat) (σ : L2.St) (st Q : Hp → Prop) : List V → Hp → Prop
  | [], H => st H ∧ Q H
  | x :: r, H => st H ∧ g x (wipe σ vs) H fun σ2 H2 => wipe σ2 vs = wipe σ vs ∧ tt σ2 H2 fun b H3 => if b = true then te σ2 H3 fun y H4 => ∃ acc, H4 D = some (.lst acc) ∧ acc.length < sizeLine ∧ Rem D g tt te vs σ st Q r (upd H4 D (.lst (acc ++ [y]))) else Rem D g tt te vs σ st Q r H3
section
variable {σ : L2.St} {H : Hp} {Q : VK} {K : PySem.W.Frag} {D : Addr} {g : TG} {tt : TT} {te : TE} {vs : List Nat} {st Qd : Hp → Prop}
theorem rem_st {l : List V} (h : Rem D g tt te vs σ st Qd l H) : st H := by cases l <;> exact h.1
theorem remCons {x : V} {r : List V} (h0 : st H) (h : g x (wipe σ vs) H fun σ2 H2 => wipe σ2 vs = wipe σ vs ∧ tt σ2 H2 fun b H3 => if b = true then te σ2 H3 fun y H4 => ∃ acc, H4 D = some (.lst acc) ∧ acc.length < sizeLine ∧ Rem D g tt te vs σ st Qd r (upd H4 D (.lst (acc ++ [y]))) else Rem D g tt te vs σ st Qd r H3) : Rem D g tt te vs σ st Qd (x :: r) H := ⟨h0, h⟩
theorem remNil (h0 : st H) (h : Qd H) : Rem D g tt te vs σ st Qd [] H := ⟨h0, h⟩
theorem drop_at {l : List V} {i : Nat} {x : V} (h : l[i]? = some x) : l.drop i = x :: l.drop (i + 1) := by
  obtain ⟨hi, e⟩ := List.getElem?_eq_some_iff.mp h
  rw [List.drop_eq_getElem_cons hi, e]
/-- over a written list -/
theorem lcUnrL {Qa : Addr → Hp → Prop} {a : Addr} {xs : List V} (hs : SqL K H a xs) (h : ∀ D, H D = none → Rem D g tt te vs σ (fun H' => SqL K H' a xs) (fun H' => Qa D H') xs (upd H D (.lst []))) :
    (∃ xs, SqL K H a xs) ∧ ∀ D, H D = none → ∃ W : Nat → Nat → Hp → Prop, (∃ m, W 0 m (upd H D (.lst []))) ∧ ∀ t m H, W t m H →
      ((Itl K a).stop t H ∧ Qa D H) ∨ ((Itl K a).go t H ∧ ∃ Nx : Hp → Prop, (∀ H', Nx H' → ∃ m', m' < m ∧ W (t + 1) m' H') ∧ ∀ x H', (Itl K a).yld t H x H' → g x (wipe σ vs) H' fun σ2 H2 => wipe σ2 vs = wipe σ vs ∧ tt σ2 H2 fun b H3 =>
        if b = true then te σ2 H3 fun y H4 => ∃ acc, H4 D = some (.lst acc) ∧ acc.length < sizeLine ∧ Nx (upd H4 D (.lst (acc ++ [y]))) else Nx H3) :=
  ⟨⟨_, hs⟩, fun D hD => lc_list (xs := xs) (fun i H' => Rem D g tt te vs σ (fun H' => SqL K H' a xs) (fun H' => Qa D H') (xs.drop i) H') (h D hD) (fun _ _ _ p => rem_st p) (fun i x H' hx p => by rw [drop_at hx] at p; exact p.2) fun H' p => by
    rw [List.drop_length] at p
    exact p.2⟩
/-- the ints of a range -/
def rgV (lo : Int) : Nat → List V
  | 0 => []
  | n + 1 => .int lo :: rgV (lo + 1) n
theorem yes {q : Bool → Hp → Prop} (h : q true H) : tYes σ H q := h
/-- two ways of an if that meet -/
theorem ifJ {D : Ends} {c : TT} {t u : TS} (J : L2.St → Hp → Prop) (h1 : (∀ σ' H', J σ' H' → D.nx σ' H') → tIfS c t u D σ H) (h2 : ∀ σ' H', J σ' H' → D.nx σ' H') : tIfS c t u D σ H := h1 h2
/-- a heap known by facts alone, from here on -/
theorem comp {t : TS} {D : Ends} (P : Hp → Prop) (h0 : P H) (h : ∀ H', P H' → t D σ H') : t D σ H := h H h0
end
end Rd
/-! ## schemes: words, dicts, written tuples, calls by keywords -/
namespace Rd
open PySem PySem.Spec PyProof.Rows L2
section
variable {σ : L2.St} {H : Hp} {Q : VK} {D : Ends} {K : PySem.W.Frag}
theorem mkK {C : Addr} {m : Nat} {sp : Sp} {gV : List V → List V → List V} {E : XK} {tk : TA} (h : tk σ H fun zs H2 => ([] : List V).length = 0 ∧ zs.length = m ∧ ∀ x dx, H2 x = none → H2 dx = none → dx ≠ x →
    sp (gV (.ref x :: []) zs) (upd (upd H2 dx (.own x)) x (.ins C dx [])) (fun v H3 => v = .non ∧ Q (.ref x) H3) E) : tMakeK C 0 m sp gV E tNil tk σ H Q := h
theorem dget {td ty : TE} (h : td σ H fun x H1 => ty σ H1 fun y H2 => ∃ a v, x = .ref a ∧ DGet H2 a y (some v) ∧ Q v H2) : tDGet td ty σ H Q := h
theorem dget2 {a : Addr} {kvs : List (Key × V)} {z : Str} {v : V} {R : V → Prop} (e : H a = some (.dK kvs)) (l : valV kvs (.inr z) = some v) (h : R v) : ∃ a' v, V.ref a = .ref a' ∧ DGet H a' (.str z) (some v) ∧ R v :=
  ⟨a, v, rfl, by have := DGet.k (k := Sum.inr z) e; rw [l] at this; exact this, h⟩
/-- a written tuple, whatever the heap -/
def SqTK (K : PySem.W.Frag) (a : Addr) (xs : List V) : Prop := ∀ H, SqT K H a xs
theorem SqTK.get {a : Addr} {xs : List V} (h : SqTK K a xs) : SqT K H a xs := h H
theorem inW {s : Str} {ws : List Str} (h : s ∈ ws) : inV (.str s) (ws.map V.str) = true := by
  unfold inV
  rw [List.any_eq_true]
  exact ⟨.str s, List.mem_map.mpr ⟨s, h, rfl⟩, by simp [eqV]⟩
theorem pickAny {a : Addr} {xs : List V} {d : Int} (e : SqL K H a xs) (h0 : 0 ≤ d) (h1 : d < (xs.length : Int)) (k : ∀ v, v ∈ xs → Q v H) : rIxL K (.ref a) (.int d) H Q := by
  obtain ⟨j, rfl⟩ : ∃ j : Nat, d = (j : Int) := ⟨d.toNat, by omega⟩
  have hj : j < xs.length := by omega
  exact ixL e (atI_nat (List.getElem?_eq_getElem hj)) (k _ (List.getElem_mem hj))
theorem bits {to : TE} (h : to σ H fun x H1 => ∃ i, x = .int i ∧ Q (.int (Builtin.Int.intBits i : Nat)) H1) : tBits to σ H Q := h
theorem tru {ta : TE} {q : Bool → Hp → Prop} (h : ta σ H fun x H' => ∃ k, TruV K x H' k ∧ q k H') : (fun σ H Q => ta σ H fun x H' => ∃ k, TruV K x H' k ∧ Q k H' : TT) σ H q := h
theorem truI {i : Int} : TruV K (.int i) H (i != 0) := rfl
theorem notF {b : Bool} (h : b = true) : (!b) = false := by rw [h]; rfl
theorem inT {p : Addr} {x : V} {xs : List V} (e : SqL K H p xs ∨ SqT K H p xs) (f1 : flatV x = true) (f2 : xs.all flatV = true) (h : Q (.bl (inV x xs)) H) : rIn K false x (.ref p) H Q := ⟨p, xs, rfl, e, f1, f2, h⟩
theorem kt_int_int {K : PySem.W.Frag} : PySem.W.kitOne K (.type "int") (.type "int") = some true := kit_ty (by decide +kernel)
theorem kt_int_bool {K : PySem.W.Frag} : PySem.W.kitOne K (.type "int") (.type "bool") = some false := kit_ty (by decide +kernel)
theorem kt_int_tuple {K : PySem.W.Frag} : PySem.W.kitOne K (.type "int") (.type "tuple") = some false := kit_ty (by decide +kernel)
theorem kt_str_str {K : PySem.W.Frag} : PySem.W.kitOne K (.type "str") (.type "str") = some true := kit_ty (by decide +kernel)
theorem kt_tuple_int {K : PySem.W.Frag} : PySem.W.kitOne K (.type "tuple") (.type "int") = some false := kit_ty (by decide +kernel)
theorem kt_tuple_tuple {K : PySem.W.Frag} : PySem.W.kitOne K (.type "tuple") (.type "tuple") = some true := kit_ty (by decide +kernel)
theorem inW_iff {s : Str} {ws : List Str} : inV (.str s) (ws.map V.str) = decide (s ∈ ws) := by
  by_cases h : s ∈ ws
  · rw [inW h, decide_eq_true h]
  · rw [decide_eq_false h, Bool.eq_false_iff]
    intro e
    unfold inV at e
    rw [List.any_eq_true] at e
    obtain ⟨x, hx, e⟩ := e
    obtain ⟨t, ht, rfl⟩ := List.mem_map.mp hx
    have : t = s := by simpa [eqV] using e
    exact h (this ▸ ht)
/-- a loop over a tuple that is known whole, turn by turn -/
def unrT (K : PySem.W.Frag) (a : Addr) (all : List V) (g : TG) (tb : TS) (D : Ends) : List V → L2.St → Hp → Prop
  | [], σ, H => D.nx σ H
  | x :: xs, σ, H => g x σ H fun σ2 H2 => tb { D with nx := fun σ' H' => SqT K H' a all ∧ unrT K a all g tb D xs σ' H', ct := fun σ' H' => SqT K H' a all ∧ unrT K a all g tb D xs σ' H', bk := D.nx } σ2 H2
theorem unrollT {a : Addr} {all : List V} {g : TG} {tb : TS} (h0 : SqT K H a all) (h : unrT K a all g tb D all σ H) :
    (∃ xs, SqT K H a xs) ∧ ∃ W : Nat → Nat → L2.St → Hp → Prop, (∃ m, W 0 m σ H) ∧ ∀ i m σ H, W i m σ H →
      ((Itt K a).stop i H ∧ D.nx σ H) ∨ ((Itt K a).go i H ∧ ∃ N : L2.St → Hp → Prop, (∀ σ' H', N σ' H' → ∃ m', m' < m ∧ W (i + 1) m' σ' H') ∧ ∀ x H', (Itt K a).yld i H x H' → g x σ H' fun σ2 H2 => tb { D with nx := N, ct := N, bk := D.nx } σ2 H2) := by
  refine ⟨⟨_, h0⟩, for_tup (xs := all) (fun i σ H => SqT K H a all ∧ unrT K a all g tb D (all.drop i) σ H) ⟨h0, h⟩ (fun i σ H _ p => p.1) (fun i x σ H hx p => ?_) (fun σ H p => ?_)⟩
  · have q := p.2
    rw [drop_at hx] at q
    exact q
  · have q := p.2
    rw [List.drop_length] at q
    exact q
theorem unrTCons {a : Addr} {all : List V} {g : TG} {tb : TS} {x : V} {xs : List V}
    (h : g x σ H fun σ2 H2 => tb { D with nx := fun σ' H' => SqT K H' a all ∧ unrT K a all g tb D xs σ' H', ct := fun σ' H' => SqT K H' a all ∧ unrT K a all g tb D xs σ' H', bk := D.nx } σ2 H2) : unrT K a all g tb D (x :: xs) σ H := h
theorem unrTNil {a : Addr} {all : List V} {g : TG} {tb : TS} (h : D.nx σ H) : unrT K a all g tb D [] σ H := h
/-- five written texts as keys -/
theorem disp5 {t1 t2 t3 t4 t5 : TE} {v1 v2 v3 v4 v5 : V} {k1 k2 k3 k4 k5 : Str} (h1 : ∀ H (R : VK), R v1 H → t1 σ H R) (h2 : ∀ H (R : VK), R v2 H → t2 σ H R) (h3 : ∀ H (R : VK), R v3 H → t3 σ H R) (h4 : ∀ H (R : VK), R v4 H → t4 σ H R) (h5 : ∀ H (R : VK), R v5 H → t5 σ H R)
    (h : ∀ p, H p = none → Q (.ref p) (upd H p (.dK (mergeK [] [(.inr k1, v1), (.inr k2, v2), (.inr k3, v3), (.inr k4, v4), (.inr k5, v5)])))) : tDisp [(tC (.str k1), t1), (tC (.str k2), t2), (tC (.str k3), t3), (tC (.str k4), t4), (tC (.str k5), t5)] σ H Q := by
  intro p np
  refine h1 _ _ (h2 _ _ (h3 _ _ (h4 _ _ (h5 _ _ ?_))))
  refine ⟨upd_same, [(.inr k1, v1), (.inr k2, v2), (.inr k3, v3), (.inr k4, v4), (.inr k5, v5)], rfl, Nat.le_of_ble_eq_true rfl, ?_⟩
  rw [upd_upd]
  exact h p np
end
end Rd

/-! ## heaps: what a step leaves -/
def Frm (a : Nat) (H H' : L2.Hp) : Prop := ∀ b o, H b = some o → b ≠ a → H' b = some o
section
open PySem L2
variable {H H' H1 H2 : Hp} {a b p : Nat} {o u : HO}
theorem Sget (f : L2.Same H H') (h : H b = some o) : H' b = some o := f b o h
theorem Sfree (f : L2.Same H H') (h : H' b = none) : H b = none := L2.Same.free f h
theorem updFree (h : upd H a o b = none) : H b = none := by
  unfold upd at h
  split at h
  · cases h
  · exact h
theorem updGet' (h : H b = some o) (n : b ≠ a) : upd H a u b = some o := by rw [upd_ne n]; exact h
theorem ne_none (h : H b = none) (h' : H a = some o) : a ≠ b := ne_of_none h' h
theorem ne_none' (h : H a = none) (h' : H b = some o) : a ≠ b := (ne_of_none h' h).symm
theorem updFresh (n : H a = none) (h : H b = some o) : upd H a u b = some o := updGet' h (ne_of_none h n)
theorem updMade {x dx : Nat} {v : HO} (n : H x = none) (m : H dx = none) (h : H b = some o) : upd (upd H dx u) x v b = some o := updGet' (updGet' h (ne_of_none h m)) (ne_of_none h n)
theorem Frm.get' (f : Frm a H H') (n : b ≠ a) (h : H b = some o) : H' b = some o := f b o h n
theorem updGet (n : b ≠ a) (h : H b = some o) : upd H a u b = some o := by rw [upd_ne n]; exact h
end

local macro_rules | `(tactic| walk_at "hp") => `(tactic| first
  | with_reducible assumption
  | with_reducible exact L2.upd_same
  | ((with_reducible apply updFresh); (· with_reducible assumption); (· walk_at "hp"))
  | ((with_reducible apply updMade); (· with_reducible assumption); (· with_reducible assumption); (· walk_at "hp"))
  | ((with_reducible apply updGet); (· walk_at "ne"); (· walk_at "hp"))
  | ((with_reducible apply Sget); (· with_reducible assumption); (· walk_at "hp"))
  | ((with_reducible apply Frm.get'); (· with_reducible assumption); (· walk_at "ne"); (· walk_at "hp"))
  | fail "hp")
local macro_rules | `(tactic| walk_at "ne") => `(tactic| first
  | with_reducible assumption
  | exact Ne.symm (by with_reducible assumption)
  | ((with_reducible apply ne_none); (· with_reducible assumption); (· walk_at "hp"))
  | ((with_reducible apply ne_none'); (· with_reducible assumption); (· walk_at "hp"))
  | ((with_reducible apply L2.ne_of); (· walk_at "hp"); (· walk_at "hp"); (· (intro z; cases z)))
  | fail "ne")
local macro_rules | `(tactic| walk_at "vr") => `(tactic| with_unfolding_all rfl)
local macro_rules | `(tactic| walk_at "hpl") => `(tactic| first
  | with_reducible assumption
  | ((with_reducible apply L2.SqL.of); walk_at "hp"))
local macro_rules | `(tactic| walk_at "hpt") => `(tactic| first
  | with_reducible assumption
  | ((with_reducible apply L2.SqT.of); walk_at "hp"))
local macro_rules | `(tactic| walk_at "hpq") => `(tactic| first
  | with_reducible assumption
  | (apply Or.inl; walk_at "hpl")
  | (apply Or.inr; walk_at "hpt"))
local macro_rules | `(tactic| walk_at "sc") => `(tactic| first
  | with_reducible assumption
  | omega
  | decide
  | ((repeat' split) <;> omega))
local macro_rules | `(tactic| walk_at "scp") => `(tactic| (unfold L2.CPow; omega))
local macro_rules | `(tactic| walk_at "ll") => `(tactic| with_unfolding_all exact Nat.le_of_ble_eq_true rfl)
theorem wm {i j : Int} (hi : -(2 ^ 200) < i ∧ i < 2 ^ 200) (hj : -(2 ^ 200) < j ∧ j < 2 ^ 200) : L2.CMulW i j :=
  L2.wide_mul (a := 200) (b := 200) (by omega) (by omega) (by decide) (by decide) (by decide)
theorem wd {i j : Int} (h : 0 < j) (hj : j < 2 ^ 200) : L2.CDivW i j :=
  L2.wide_div (b := 200) h (by omega) (by decide) (by decide)
local macro_rules | `(tactic| walk_at "scm") => `(tactic| exact wm ⟨by walk_at "sc", by walk_at "sc"⟩ ⟨by walk_at "sc", by walk_at "sc"⟩)
local macro_rules | `(tactic| walk_at "scd") => `(tactic| exact wd (by walk_at "sc") (by walk_at "sc"))
local macro_rules | `(tactic| walk_at "clsv") => `(tactic| first | exact L2.ClsV.ty _ | exact L2.ClsV.own _)
local macro_rules | `(tactic| walk_at "kit") => `(tactic| first | with_reducible exact Rd.kit_int_int | with_reducible exact Rd.kit_int_bool | with_reducible exact Rd.kit_bool_bool | with_reducible exact Rd.kit_str_str | with_reducible exact Rd.kit_bool_int | with_reducible exact Rd.kit_str_int | with_reducible exact Rd.kit_none_int | with_reducible exact Rd.kit_tuple_int | with_reducible exact Rd.kit_list_int | with_reducible exact Rd.kit_dict_int | with_reducible exact Rd.kit_str_bool | with_reducible exact Rd.kit_int_str | with_reducible assumption)
local macro_rules | `(tactic| walk_at "nf") => `(tactic| with_reducible assumption)
local macro_rules | `(tactic| walk_at "tyx") => `(tactic| first | exact L2.TyX.base (L2.TyOf.int _) | exact L2.TyX.base (L2.TyOf.bl _) | exact L2.TyX.base L2.TyOf.non | exact L2.TyX.base (L2.TyOf.str _) | ((with_reducible apply Rd.ty_tup); walk_at "hp") | ((with_reducible apply Rd.ty_lst); walk_at "hp"))
local macro_rules | `(tactic| walk_at "frm") => `(tactic| first | (intro b o hb; walk_at "hp") | (intro b o hb hn; walk_at "hp"))
local macro_rules | `(tactic| walk_at "nn") => `(tactic| first
  | with_reducible assumption
  | exact updFree (by with_reducible assumption)
  | exact updFree (updFree (by with_reducible assumption))
  | exact updFree (updFree (updFree (by with_reducible assumption)))
  | exact updFree (updFree (updFree (updFree (by with_reducible assumption))))
  | exact updFree (updFree (updFree (updFree (updFree (by with_reducible assumption)))))
  | exact updFree (updFree (updFree (updFree (updFree (updFree (by with_reducible assumption))))))
  | exact updFree (updFree (updFree (updFree (updFree (updFree (updFree (by with_reducible assumption)))))))
  | exact updFree (updFree (updFree (updFree (updFree (updFree (updFree (updFree (by with_reducible assumption))))))))
  | exact updFree (updFree (updFree (updFree (updFree (updFree (updFree (updFree (updFree (by with_reducible assumption)))))))))
  | exact updFree (updFree (updFree (updFree (updFree (updFree (updFree (updFree (updFree (updFree (by with_reducible assumption))))))))))
  | exact updFree (updFree (updFree (updFree (updFree (updFree (updFree (updFree (updFree (updFree (updFree (by with_reducible assumption)))))))))))
  | exact updFree (updFree (updFree (updFree (updFree (updFree (updFree (updFree (updFree (updFree (updFree (updFree (by with_reducible assumption))))))))))))
  | exact updFree (updFree (updFree (updFree (updFree (updFree (updFree (updFree (updFree (updFree (updFree (updFree (updFree (by with_reducible assumption)))))))))))))
  | exact updFree (updFree (updFree (updFree (updFree (updFree (updFree (updFree (updFree (updFree (updFree (updFree (updFree (updFree (by with_reducible assumption))))))))))))))
  | exact updFree (updFree (updFree (updFree (updFree (updFree (updFree (updFree (updFree (updFree (updFree (updFree (updFree (updFree (updFree (by with_reducible assumption)))))))))))))))
  | exact updFree (updFree (updFree (updFree (updFree (updFree (updFree (updFree (updFree (updFree (updFree (updFree (updFree (updFree (updFree (updFree (by with_reducible assumption))))))))))))))))
  | exact updFree (updFree (updFree (updFree (updFree (updFree (updFree (updFree (updFree (updFree (updFree (updFree (updFree (updFree (updFree (updFree (updFree (by with_reducible assumption)))))))))))))))))
  | exact updFree (updFree (updFree (updFree (updFree (updFree (updFree (updFree (updFree (updFree (updFree (updFree (updFree (updFree (updFree (updFree (updFree (updFree (by with_reducible assumption))))))))))))))))))
  | ((with_reducible apply Sfree); (· with_reducible assumption); (· walk_at "nn")))
local macro_rules | `(tactic| walk_at "em") => `(tactic| first | rfl | (simp only [Int.emod_add_emod, Int.emod_sub_emod, Int.sub_emod_emod, Int.emod_emod]; first | done | rfl | (congr 1; omega)))
local macro_rules | `(tactic| walk_at "dp") => `(tactic| first | ((with_reducible apply Rd.dp_nil); walk_at "hpl") | ((with_reducible apply Rd.dp_listI); walk_at "hpl") | ((with_reducible apply Rd.dp_pair); walk_at "hpt") | ((with_reducible apply L2.Dp.lst); (· walk_at "hpl"); (· walk_at "dpa")) | ((with_reducible apply L2.Dp.tup); (· walk_at "hpt"); (· walk_at "dpa")))
local macro_rules | `(tactic| walk_at "dpt") => `(tactic| first | ((with_reducible apply Rd.dp_pair); (· walk_at "hpt")) | ((with_reducible apply L2.Dp.tup); (· walk_at "hpt"); (· walk_at "dpa")) | fail "dpt")
local macro_rules | `(tactic| walk_at "dpa") => `(tactic| first | with_reducible exact L2.DpAll.nil | ((with_reducible apply L2.DpAll.cons); (· walk_at "dp1"); (· walk_at "dpa")))
local macro_rules | `(tactic| walk_at "dp1") => `(tactic| first | with_reducible exact L2.Dp.int _ | with_reducible exact L2.Dp.bl _ | with_reducible exact L2.Dp.str _ | with_reducible exact L2.Dp.non | walk_at "dp")
local macro_rules | `(tactic| walk_at "shp") => `(tactic| first | with_reducible exact Rd.shaped_pair _ _ | with_reducible exact Rd.shaped_listI _ | with_reducible exact Rd.shaped_nil | (simp only [PySem.SeqAt.shaped, PySem.PyData.canLay0, PySem.PyData.canLayAll0, PySem.PyData.depth, PySem.PyData.depthAll]; rfl))
local macro_rules | `(tactic| walk_at "ty0") => `(tactic| exact Own.ty_int)
local macro_rules | `(tactic| walk_at "sfl") => `(tactic| first | with_unfolding_all exact Nat.le_of_ble_eq_true rfl | ((refine Rd.lput ?_); (repeat refine Rd.lputs ?_); with_unfolding_all exact Nat.le_of_ble_eq_true rfl))
local macro_rules | `(tactic| walk_at "ixn") => `(tactic| first | with_unfolding_all rfl | decide)
local macro_rules | `(tactic| walk_at "bT") => `(tactic| first | (simp only [PySem.PyData.eqv, PySem.PyData.eqvAll, beq_self_eq_true, Bool.and_self]; done) | (exact decide_eq_true rfl) | (simp only [L2.V.int.injEq, L2.V.bl.injEq, decide_eq_true_eq]; omega) | with_unfolding_all rfl | with_reducible assumption | exact decide_eq_true (by walk_at "sc"))
local macro_rules | `(tactic| walk_at "bF") => `(tactic| first | (simp only [← Int.sub_emod, decide_true, Bool.not_true]; done) | (simp only [L2.V.int.injEq, Int.emod_eq_emod_iff_emod_sub_eq_zero, eq_self, decide_true, Bool.true_and, Bool.not_true]; done) | (simp only [Rd.eqv_pairV, Rd.eqv_listI, Rd.eqv_nil, Bool.and_self, Bool.not_true, decide_true]; done) | with_unfolding_all rfl | with_reducible assumption | exact decide_eq_false (by walk_at "sc") | (simp only [L2.V.int.injEq, L2.V.bl.injEq, decide_eq_false_iff_not, Bool.not_eq_false', Bool.not_eq_eq_eq_not, Bool.not_false, decide_eq_true_eq]; omega) | (simp only [L2.V.int.injEq, Bool.and_eq_false_iff, decide_eq_false_iff_not]; first | omega | exact Or.inl (by omega)))

/-! ## the law's source of numbers: two ints in a list -/
section
open PySem L2
/-- what stands in the list -/
def SrcO (o : HO) : Prop := ∃ x y : Int, o = .lst [.int x, .int y] ∧ 0 ≤ x ∧ 0 ≤ y ∧ y < 2147483647
/-- a draw -/
abbrev spDraw : Sp := fun vs H Q _ => ∃ (a : Addr) (o : HO) (m : Int), vs = [.ref a, .int m] ∧ H a = some o ∧ SrcO o ∧ 0 < m ∧ m < 2 ^ 190 ∧
  ∀ (d : Int) (o' : HO), 0 ≤ d → d < m → SrcO o' → Q (.int d) (upd H a o')
/-- a fresh source -/
abbrev spSource (K : PySem.W.Frag) : Sp := fun vs H Q _ => ∃ (a : Addr) (ns : List Int) (t : Int), vs = [.ref a, .int t] ∧ SqL K H a (ns.map V.int) ∧ 0 ≤ t ∧ t < 1000000 ∧
  ∀ (p : Addr) (o : HO), H p = none → SrcO o → Q (.ref p) (upd H p o)
theorem atI_map {ns : List Int} {t : Int} (h0 : 0 ≤ t) (h : t < (ns.length : Int)) : ∃ z : Int, atI (ns.map V.int) t = some (.int z) := by
  obtain ⟨j, rfl⟩ : ∃ j : Nat, t = (j : Int) := ⟨t.toNat, by omega⟩
  have hj : j < ns.length := by omega
  exact ⟨ns[j], atI_nat (by rw [List.getElem?_map, List.getElem?_eq_getElem hj]; rfl)⟩
end

namespace Pk13
open PySem L2
def top (i : Nat) : Stmt := PySem.Challenge.pw_ringindexes_k13_whole_gaps_of_great_ring.main.body.getD i (.Pass ⟨0, 0, 0, 0⟩)
abbrev s_is_whole : Stmt := top 10
abbrev s_is_whole_from : Stmt := top 11
abbrev s_is_word_of : Stmt := top 12
abbrev s_is_size : Stmt := top 13
abbrev s_check_size : Stmt := top 14
abbrev s_Formu__initu_ : Stmt := inClass (top 18) 0
abbrev s_form_at : Stmt := top 19
abbrev s_mask_of : Stmt := top 33
abbrev s_steps_to_bits : Stmt := top 34
abbrev s_mask_gaps : Stmt := top 32
abbrev s_off_spans : Stmt := top 30
abbrev s_rest_spans : Stmt := top 29
abbrev s_steps_to_span : Stmt := top 31
abbrev s_gaps_from : Stmt := top 28
abbrev s_Scheme_wrap : Stmt := inClass (top 52) 1
abbrev s_wrap_at : Stmt := top 38
abbrev s_modulus_of : Stmt := top 36
abbrev s_Scheme_slot : Stmt := inClass (top 52) 3
abbrev s_check_counter : Stmt := top 39
abbrev s_slot_at : Stmt := top 40
abbrev s_gap_of : Stmt := top 37
abbrev s_is_small_form : Stmt := top 57
abbrev s_is_full : Stmt := top 58
abbrev s_is_wrap : Stmt := top 56
abbrev s_is_part : Stmt := top 55
abbrev s_first_wrong : Stmt := top 54
abbrev s_Schemeu__initu_ : Stmt := inClass (top 52) 0
abbrev s_l_source : Stmt := top 66
abbrev s_l_draw : Stmt := top 67
abbrev s_l_pick : Stmt := top 68
abbrev s_l_limit : Stmt := top 69
abbrev s_l_parts : Stmt := top 70
abbrev s_l_wrap : Stmt := top 71
abbrev s_l_rule : Stmt := top 72
abbrev s_l_scheme : Stmt := top 73
abbrev s_l_modulus : Stmt := top 74
abbrev s_l_slot : Stmt := top 75
abbrev s_l_power : Stmt := top 77
abbrev s_l_size : Stmt := top 76
abbrev s_l_lesser : Stmt := top 78
abbrev s_l_right : Stmt := top 79
abbrev s_law : Stmt := top 80
theorem q_slope_base : ¬ (("slope" : Str) = "base") := by decide +kernel
local macro_rules | `(tactic| walk_at "lk") => `(tactic| first | with_unfolding_all rfl | (simp only [List.lookup, L2.putF, beq_iff_eq, beq_self_eq_true, q_parts_base, (beq_eq_false_iff_ne.mpr q_parts_base), q_parts_slope, (beq_eq_false_iff_ne.mpr q_parts_slope), q_base_parts, (beq_eq_false_iff_ne.mpr q_base_parts), q_base_slope, (beq_eq_false_iff_ne.mpr q_base_slope), q_slope_parts, (beq_eq_false_iff_ne.mpr q_slope_parts), q_slope_base, (beq_eq_false_iff_ne.mpr q_slope_base)]; first | done | rfl))
structure Adr where
  f_is_whole : Addr
  d_is_whole : FuncData
  f_is_whole_from : Addr
  d_is_whole_from : FuncData
  f_is_word_of : Addr
  d_is_word_of : FuncData
  f_is_size : Addr
  d_is_size : FuncData
  f_check_size : Addr
  d_check_size : FuncData
  f_Formu__initu_ : Addr
  d_Formu__initu_ : FuncData
  f_form_at : Addr
  d_form_at : FuncData
  f_mask_of : Addr
  d_mask_of : FuncData
  f_steps_to_bits : Addr
  d_steps_to_bits : FuncData
  f_mask_gaps : Addr
  d_mask_gaps : FuncData
  f_off_spans : Addr
  d_off_spans : FuncData
  f_rest_spans : Addr
  d_rest_spans : FuncData
  f_steps_to_span : Addr
  d_steps_to_span : FuncData
  f_gaps_from : Addr
  d_gaps_from : FuncData
  f_Scheme_wrap : Addr
  d_Scheme_wrap : FuncData
  f_wrap_at : Addr
  d_wrap_at : FuncData
  f_modulus_of : Addr
  d_modulus_of : FuncData
  f_Scheme_slot : Addr
  d_Scheme_slot : FuncData
  f_check_counter : Addr
  d_check_counter : FuncData
  f_slot_at : Addr
  d_slot_at : FuncData
  f_gap_of : Addr
  d_gap_of : FuncData
  f_is_small_form : Addr
  d_is_small_form : FuncData
  f_is_full : Addr
  d_is_full : FuncData
  f_is_wrap : Addr
  d_is_wrap : FuncData
  f_is_part : Addr
  d_is_part : FuncData
  f_first_wrong : Addr
  d_first_wrong : FuncData
  f_Schemeu__initu_ : Addr
  d_Schemeu__initu_ : FuncData
  f_l_source : Addr
  d_l_source : FuncData
  f_l_draw : Addr
  d_l_draw : FuncData
  f_l_pick : Addr
  d_l_pick : FuncData
  f_l_limit : Addr
  d_l_limit : FuncData
  f_l_parts : Addr
  d_l_parts : FuncData
  f_l_wrap : Addr
  d_l_wrap : FuncData
  f_l_rule : Addr
  d_l_rule : FuncData
  f_l_scheme : Addr
  d_l_scheme : FuncData
  f_l_modulus : Addr
  d_l_modulus : FuncData
  f_l_slot : Addr
  d_l_slot : FuncData
  f_l_power : Addr
  d_l_power : FuncData
  f_l_size : Addr
  d_l_size : FuncData
  f_l_lesser : Addr
  d_l_lesser : FuncData
  f_l_right : Addr
  d_l_right : FuncData
  f_law : Addr
  d_law : FuncData
  c_Form : Addr
  c_Scheme : Addr
  p_Scheme_wrap : Addr
  p_Scheme_slot : Addr
  t_GREATEST_SIZE : Tok
  t_PART_NAMES : Addr
  t_PART_WORDS : Addr
  t_PART_WORDS_slot : Addr
  t_PART_WORDS_empty : Addr
  t_PART_WORDS_when : Addr
  t_MEASURES : Addr
  t_SIGNS : Addr
  t_PLAIN_FULLS : Addr
  t_GREATEST_SLOPE : Tok
  t_GREATEST_BASE : Tok
  t_GREATEST_WIDTH : Tok
structure IsC (K : PySem.W.Frag) (C : Addr) : Prop where
  ha : PySem.W.findIn K (.ref C) "__class__" = some (some (.builtin "object.__class__"))
  hn : PySem.W.specialIn K (.builtin "object.__class__") "__get__" = some (some (.builtin "getset_descriptor.__get__"))
  htk : PySem.W.takesIn K (.builtin "object.__class__") = some true
  hm : PySem.W.mroIn K C (.type "object") = some true
theorem ty_own {K : PySem.W.Frag} {H : Hp} {a C dx : Addr} {fs : List (Str × V)} (e : H a = some (.ins C dx fs)) (k : Cls K C) (i : IsC K C) : TyX K H (.ref a) (.ref C) := .base (.ins e k i.ha i.hn i.htk i.hm)
local macro_rules | `(tactic| walk_at "tyx") => `(tactic| first | ((with_reducible apply ty_own); (· walk_at "hp"); (· with_reducible assumption); (· with_reducible assumption)) | fail "tyx")
structure Txt (w : World) (K : PySem.W.Frag) (mg : Str → Option Value) (A : Adr) : Prop where
  n_abs : mg "abs" = none
  n_bool : mg "bool" = none
  n_int : mg "int" = none
  n_isinstance : mg "isinstance" = none
  n_len : mg "len" = none
  n_max : mg "max" = none
  n_min : mg "min" = none
  n_range : mg "range" = none
  n_str : mg "str" = none
  n_tuple : mg "tuple" = none
  m_GREATEST_SIZE : mg "GREATEST_SIZE" = some (.int (1000000000000000000000000000000) A.t_GREATEST_SIZE)
  m_PART_NAMES : mg "PART_NAMES" = some (.ref A.t_PART_NAMES)
  q_PART_NAMES : Rd.SqTK K A.t_PART_NAMES [.str "wrap", .str "slot", .str "empty", .str "full", .str "when"]
  m_PART_WORDS : mg "PART_WORDS" = some (.ref A.t_PART_WORDS)
  q_PART_WORDS_slot : Rd.SqTK K A.t_PART_WORDS_slot [.str "rest", .str "off", .str "mask"]
  d_PART_WORDS_slot : KDct K w A.t_PART_WORDS "slot" (.ref A.t_PART_WORDS_slot)
  q_PART_WORDS_empty : Rd.SqTK K A.t_PART_WORDS_empty [.str "same", .str "count", .str "note"]
  d_PART_WORDS_empty : KDct K w A.t_PART_WORDS "empty" (.ref A.t_PART_WORDS_empty)
  q_PART_WORDS_when : Rd.SqTK K A.t_PART_WORDS_when [.str "refuse", .str "drop", .str "over"]
  d_PART_WORDS_when : KDct K w A.t_PART_WORDS "when" (.ref A.t_PART_WORDS_when)
  m_MEASURES : mg "MEASURES" = some (.ref A.t_MEASURES)
  q_MEASURES : Rd.SqTK K A.t_MEASURES [.str "diff", .str "count"]
  m_SIGNS : mg "SIGNS" = some (.ref A.t_SIGNS)
  q_SIGNS : Rd.SqTK K A.t_SIGNS [.str "=", .str ">="]
  m_PLAIN_FULLS : mg "PLAIN_FULLS" = some (.ref A.t_PLAIN_FULLS)
  q_PLAIN_FULLS : Rd.SqTK K A.t_PLAIN_FULLS [.str "next", .str "note"]
  m_GREATEST_SLOPE : mg "GREATEST_SLOPE" = some (.int (4) A.t_GREATEST_SLOPE)
  m_GREATEST_BASE : mg "GREATEST_BASE" = some (.int (20) A.t_GREATEST_BASE)
  m_GREATEST_WIDTH : mg "GREATEST_WIDTH" = some (.int (100) A.t_GREATEST_WIDTH)
  m_Form : mg "Form" = some (.ref A.c_Form)
  k_Form : Cls K A.c_Form
  n_Form_slope : NoAttr K A.c_Form "slope"
  n_Form_base : NoAttr K A.c_Form "base"
  K_Form : Mk K A.c_Form A.f_Formu__initu_
  i_Form : IsC K A.c_Form
  kt_Form_Form : PySem.W.kitOne K (.ref A.c_Form) (.ref A.c_Form) = some true
  kt_int_Form : PySem.W.kitOne K (.type "int") (.ref A.c_Form) = some false
  m_Scheme : mg "Scheme" = some (.ref A.c_Scheme)
  k_Scheme : Cls K A.c_Scheme
  n_Scheme_parts : NoAttr K A.c_Scheme "_parts"
  K_Scheme : Mk K A.c_Scheme A.f_Schemeu__initu_
  m_is_whole : mg "is_whole" = some (.ref A.f_is_whole)
  F_is_whole : Fun K "is_whole" "is_whole" s_is_whole A.f_is_whole A.d_is_whole
  b_is_whole : Binds K A.d_is_whole ["thing"] []
  m_is_whole_from : mg "is_whole_from" = some (.ref A.f_is_whole_from)
  F_is_whole_from : Fun K "is_whole_from" "is_whole_from" s_is_whole_from A.f_is_whole_from A.d_is_whole_from
  b_is_whole_from : Binds K A.d_is_whole_from ["thing", "low", "high"] []
  m_is_word_of : mg "is_word_of" = some (.ref A.f_is_word_of)
  F_is_word_of : Fun K "is_word_of" "is_word_of" s_is_word_of A.f_is_word_of A.d_is_word_of
  b_is_word_of : Binds K A.d_is_word_of ["thing", "words"] []
  m_is_size : mg "is_size" = some (.ref A.f_is_size)
  F_is_size : Fun K "is_size" "is_size" s_is_size A.f_is_size A.d_is_size
  b_is_size : Binds K A.d_is_size ["thing"] []
  m_check_size : mg "check_size" = some (.ref A.f_check_size)
  F_check_size : Fun K "check_size" "check_size" s_check_size A.f_check_size A.d_check_size
  b_check_size : Binds K A.d_check_size ["n"] []
  F_Formu__initu_ : Fun K "__init__" "Form.__init__" s_Formu__initu_ A.f_Formu__initu_ A.d_Formu__initu_
  b_Formu__initu_ : Binds K A.d_Formu__initu_ ["self", "slope", "base"] []
  m_form_at : mg "form_at" = some (.ref A.f_form_at)
  F_form_at : Fun K "form_at" "form_at" s_form_at A.f_form_at A.d_form_at
  b_form_at : Binds K A.d_form_at ["form", "n"] []
  m_mask_of : mg "mask_of" = some (.ref A.f_mask_of)
  F_mask_of : Fun K "mask_of" "mask_of" s_mask_of A.f_mask_of A.d_mask_of
  b_mask_of : Binds K A.d_mask_of ["n", "modulus"] []
  m_steps_to_bits : mg "steps_to_bits" = some (.ref A.f_steps_to_bits)
  F_steps_to_bits : Fun K "steps_to_bits" "steps_to_bits" s_steps_to_bits A.f_steps_to_bits A.d_steps_to_bits
  b_steps_to_bits : Binds K A.d_steps_to_bits ["modulus", "mask", "bits", "c"] []
  m_mask_gaps : mg "mask_gaps" = some (.ref A.f_mask_gaps)
  F_mask_gaps : Fun K "mask_gaps" "mask_gaps" s_mask_gaps A.f_mask_gaps A.d_mask_gaps
  b_mask_gaps : Binds K A.d_mask_gaps ["n", "modulus", "c"] []
  m_off_spans : mg "off_spans" = some (.ref A.f_off_spans)
  F_off_spans : Fun K "off_spans" "off_spans" s_off_spans A.f_off_spans A.d_off_spans
  b_off_spans : Binds K A.d_off_spans ["n", "modulus"] []
  m_rest_spans : mg "rest_spans" = some (.ref A.f_rest_spans)
  F_rest_spans : Fun K "rest_spans" "rest_spans" s_rest_spans A.f_rest_spans A.d_rest_spans
  b_rest_spans : Binds K A.d_rest_spans ["n", "modulus"] []
  m_steps_to_span : mg "steps_to_span" = some (.ref A.f_steps_to_span)
  F_steps_to_span : Fun K "steps_to_span" "steps_to_span" s_steps_to_span A.f_steps_to_span A.d_steps_to_span
  b_steps_to_span : Binds K A.d_steps_to_span ["first", "end", "modulus", "c"] []
  m_gaps_from : mg "gaps_from" = some (.ref A.f_gaps_from)
  F_gaps_from : Fun K "gaps_from" "gaps_from" s_gaps_from A.f_gaps_from A.d_gaps_from
  b_gaps_from : Binds K A.d_gaps_from ["kind", "n", "modulus", "c"] []
  F_Scheme_wrap : Fun K "wrap" "Scheme.wrap" s_Scheme_wrap A.f_Scheme_wrap A.d_Scheme_wrap
  b_Scheme_wrap : Binds K A.d_Scheme_wrap ["self"] []
  m_wrap_at : mg "wrap_at" = some (.ref A.f_wrap_at)
  F_wrap_at : Fun K "wrap_at" "wrap_at" s_wrap_at A.f_wrap_at A.d_wrap_at
  b_wrap_at : Binds K A.d_wrap_at ["wrap", "n"] []
  m_modulus_of : mg "modulus_of" = some (.ref A.f_modulus_of)
  F_modulus_of : Fun K "modulus_of" "modulus_of" s_modulus_of A.f_modulus_of A.d_modulus_of
  b_modulus_of : Binds K A.d_modulus_of ["scheme", "n"] []
  F_Scheme_slot : Fun K "slot" "Scheme.slot" s_Scheme_slot A.f_Scheme_slot A.d_Scheme_slot
  b_Scheme_slot : Binds K A.d_Scheme_slot ["self"] []
  m_check_counter : mg "check_counter" = some (.ref A.f_check_counter)
  F_check_counter : Fun K "check_counter" "check_counter" s_check_counter A.f_check_counter A.d_check_counter
  b_check_counter : Binds K A.d_check_counter ["c", "modulus"] []
  m_slot_at : mg "slot_at" = some (.ref A.f_slot_at)
  F_slot_at : Fun K "slot_at" "slot_at" s_slot_at A.f_slot_at A.d_slot_at
  b_slot_at : Binds K A.d_slot_at ["kind", "n", "c"] []
  m_gap_of : mg "gap_of" = some (.ref A.f_gap_of)
  F_gap_of : Fun K "gap_of" "gap_of" s_gap_of A.f_gap_of A.d_gap_of
  b_gap_of : Binds K A.d_gap_of ["scheme", "n", "c"] []
  m_is_small_form : mg "is_small_form" = some (.ref A.f_is_small_form)
  F_is_small_form : Fun K "is_small_form" "is_small_form" s_is_small_form A.f_is_small_form A.d_is_small_form
  b_is_small_form : Binds K A.d_is_small_form ["thing"] []
  m_is_full : mg "is_full" = some (.ref A.f_is_full)
  F_is_full : Fun K "is_full" "is_full" s_is_full A.f_is_full A.d_is_full
  b_is_full : Binds K A.d_is_full ["thing"] []
  m_is_wrap : mg "is_wrap" = some (.ref A.f_is_wrap)
  F_is_wrap : Fun K "is_wrap" "is_wrap" s_is_wrap A.f_is_wrap A.d_is_wrap
  b_is_wrap : Binds K A.d_is_wrap ["thing"] []
  m_is_part : mg "is_part" = some (.ref A.f_is_part)
  F_is_part : Fun K "is_part" "is_part" s_is_part A.f_is_part A.d_is_part
  b_is_part : Binds K A.d_is_part ["part", "thing"] []
  m_first_wrong : mg "first_wrong" = some (.ref A.f_first_wrong)
  F_first_wrong : Fun K "first_wrong" "first_wrong" s_first_wrong A.f_first_wrong A.d_first_wrong
  b_first_wrong : Binds K A.d_first_wrong ["parts"] []
  F_Schemeu__initu_ : FunD K "__init__" "Scheme.__init__" (defArgs s_Schemeu__initu_) (defBody s_Schemeu__initu_) (defScope s_Schemeu__initu_) [] [("when", .str "refuse")] A.f_Schemeu__initu_ A.d_Schemeu__initu_
  kb_Schemeu__initu_ : ∃ mv : List Value, KBn K A.d_Schemeu__initu_ ["self", "wrap", "slot", "empty", "full", "when"] 1 ["wrap", "slot", "empty", "full", "when"] (fun us ws => us ++ ws) (fun vs zs => vs ++ zs)
  m_l_source : mg "_law_source" = some (.ref A.f_l_source)
  F_l_source : Fun K "_law_source" "_law_source" s_l_source A.f_l_source A.d_l_source
  b_l_source : Binds K A.d_l_source ["_law_script", "_law_turn"] []
  m_l_draw : mg "_law_draw" = some (.ref A.f_l_draw)
  F_l_draw : Fun K "_law_draw" "_law_draw" s_l_draw A.f_l_draw A.d_l_draw
  b_l_draw : Binds K A.d_l_draw ["_law_source_here", "_law_amount"] []
  m_l_pick : mg "_law_pick" = some (.ref A.f_l_pick)
  F_l_pick : Fun K "_law_pick" "_law_pick" s_l_pick A.f_l_pick A.d_l_pick
  b_l_pick : Binds K A.d_l_pick ["_law_source_here", "_law_items"] []
  m_l_limit : mg "_law_limit" = some (.ref A.f_l_limit)
  F_l_limit : Fun K "_law_limit" "_law_limit" s_l_limit A.f_l_limit A.d_l_limit
  b_l_limit : Binds K A.d_l_limit ["_law_source_here"] []
  m_l_parts : mg "_law_parts" = some (.ref A.f_l_parts)
  F_l_parts : Fun K "_law_parts" "_law_parts" s_l_parts A.f_l_parts A.d_l_parts
  b_l_parts : Binds K A.d_l_parts ["_law_source_here", "_law_widest"] []
  m_l_wrap : mg "_law_wrap" = some (.ref A.f_l_wrap)
  F_l_wrap : Fun K "_law_wrap" "_law_wrap" s_l_wrap A.f_l_wrap A.d_l_wrap
  b_l_wrap : Binds K A.d_l_wrap ["_law_turning"] []
  m_l_rule : mg "_law_rule" = some (.ref A.f_l_rule)
  F_l_rule : Fun K "_law_rule" "_law_rule" s_l_rule A.f_l_rule A.d_l_rule
  b_l_rule : Binds K A.d_l_rule ["_law_filled"] []
  m_l_scheme : mg "_law_scheme" = some (.ref A.f_l_scheme)
  F_l_scheme : Fun K "_law_scheme" "_law_scheme" s_l_scheme A.f_l_scheme A.d_l_scheme
  b_l_scheme : Binds K A.d_l_scheme ["_law_parts_here"] []
  m_l_modulus : mg "_law_modulus" = some (.ref A.f_l_modulus)
  F_l_modulus : Fun K "_law_modulus" "_law_modulus" s_l_modulus A.f_l_modulus A.d_l_modulus
  b_l_modulus : Binds K A.d_l_modulus ["_law_turning", "_law_n"] []
  m_l_slot : mg "_law_slot" = some (.ref A.f_l_slot)
  F_l_slot : Fun K "_law_slot" "_law_slot" s_l_slot A.f_l_slot A.d_l_slot
  b_l_slot : Binds K A.d_l_slot ["_law_rule_here", "_law_n", "_law_c"] []
  m_l_power : mg "_law_power" = some (.ref A.f_l_power)
  F_l_power : Fun K "_law_power" "_law_power" s_l_power A.f_l_power A.d_l_power
  b_l_power : Binds K A.d_l_power ["_law_many"] []
  m_l_size : mg "_law_size" = some (.ref A.f_l_size)
  F_l_size : Fun K "_law_size" "_law_size" s_l_size A.f_l_size A.d_l_size
  b_l_size : Binds K A.d_l_size ["_law_source_here"] []
  m_l_lesser : mg "_law_lesser" = some (.ref A.f_l_lesser)
  F_l_lesser : Fun K "_law_lesser" "_law_lesser" s_l_lesser A.f_l_lesser A.d_l_lesser
  b_l_lesser : Binds K A.d_l_lesser ["_law_source_here", "_law_n", "_law_gap"] []
  m_l_right : mg "_law_right" = some (.ref A.f_l_right)
  F_l_right : Fun K "_law_right" "_law_right" s_l_right A.f_l_right A.d_l_right
  b_l_right : Binds K A.d_l_right ["_law_source_here", "_law_scheme_here", "_law_parts_here", "_law_n", "_law_modulus_here", "_law_c"] []
  m_law : mg "law" = some (.ref A.f_law)
  F_law : Fun K "law" "law" s_law A.f_law A.d_law
  b_law : Binds K A.d_law ["_law_script"] []
  R_Scheme_wrap : PropOf K A.c_Scheme "wrap" A.p_Scheme_wrap A.f_Scheme_wrap
  R_Scheme_slot : PropOf K A.c_Scheme "slot" A.p_Scheme_slot A.f_Scheme_slot
  nf_Form_Form : PySem.W.notFirst K A.c_Form (.ref A.c_Form) = true
  nf_int_Form : PySem.W.notFirst K A.c_Form (.type "int") = true

/-- a form's fields -/
def fF (s b : Int) : List (Str × V) := [("slope", .int s), ("base", .int b)]
theorem fF_slope (s b : Int) : (fF s b).lookup ("slope" : Str) = some (V.int s) := by unfold fF; walk_at "lk"
theorem fF_base (s b : Int) : (fF s b).lookup ("base" : Str) = some (V.int b) := by unfold fF; walk_at "lk"
theorem fF_put (s b : Int) : putF "base" (.int b) (putF "slope" (.int s) []) = fF s b := by
  show (if ("slope" : Str) = "base" then _ else (("slope" : Str), V.int s) :: putF "base" (V.int b) []) = _
  rw [if_neg q_slope_base] <;> rfl
local macro_rules | `(tactic| walk_at "lk") => `(tactic| first | exact fF_slope _ _ | exact fF_base _ _)
def Form (A : Adr) (H : Hp) (p : Addr) (s b : Int) : Prop := ∃ dx, H p = some (.ins A.c_Form dx (fF s b))
/-- what may stand beside a form: a form, or an int -/
def ArgF (A : Adr) (H : Hp) (y : V) (c d : Int) : Prop := (∃ q dq, y = .ref q ∧ H q = some (.ins A.c_Form dq (fF c d))) ∨ (c = 0 ∧ y = .int d)
local macro_rules | `(tactic| walk_at "argf") => `(tactic| first | with_reducible assumption | exact Or.inl ⟨_, _, rfl, by walk_at "hp"⟩ | exact Or.inr ⟨rfl, rfl⟩)

local macro_rules | `(tactic| walk_at "hpt") => `(tactic| first | with_reducible assumption | ((with_reducible apply Rd.SqTK.get); with_reducible assumption) | ((with_reducible apply L2.SqT.of); walk_at "hp") | fail "hpt")
local macro_rules | `(tactic| walk_at "flt") => `(tactic| first | exact Rd.flatW _ | with_unfolding_all rfl | fail "flt")
local macro_rules | `(tactic| walk_at "kit") => `(tactic| first | with_reducible assumption | with_reducible exact Rd.kt_int_int | with_reducible exact Rd.kt_int_bool | with_reducible exact Rd.kt_int_str | with_reducible exact Rd.kt_int_tuple | with_reducible exact Rd.kt_int_list | with_reducible exact Rd.kt_int_dict | with_reducible exact Rd.kt_bool_int | with_reducible exact Rd.kt_bool_bool | with_reducible exact Rd.kt_bool_str | with_reducible exact Rd.kt_bool_tuple | with_reducible exact Rd.kt_bool_list | with_reducible exact Rd.kt_bool_dict | with_reducible exact Rd.kt_str_int | with_reducible exact Rd.kt_str_bool | with_reducible exact Rd.kt_str_str | with_reducible exact Rd.kt_str_tuple | with_reducible exact Rd.kt_str_list | with_reducible exact Rd.kt_str_dict | with_reducible exact Rd.kt_NoneType_int | with_reducible exact Rd.kt_NoneType_bool | with_reducible exact Rd.kt_NoneType_str | with_reducible exact Rd.kt_NoneType_tuple | with_reducible exact Rd.kt_NoneType_list | with_reducible exact Rd.kt_NoneType_dict | with_reducible exact Rd.kt_tuple_int | with_reducible exact Rd.kt_tuple_bool | with_reducible exact Rd.kt_tuple_str | with_reducible exact Rd.kt_tuple_tuple | with_reducible exact Rd.kt_tuple_list | with_reducible exact Rd.kt_tuple_dict | with_reducible exact Rd.kt_list_int | with_reducible exact Rd.kt_list_bool | with_reducible exact Rd.kt_list_str | with_reducible exact Rd.kt_list_tuple | with_reducible exact Rd.kt_list_list | with_reducible exact Rd.kt_list_dict | with_reducible exact Rd.kt_dict_int | with_reducible exact Rd.kt_dict_bool | with_reducible exact Rd.kt_dict_str | with_reducible exact Rd.kt_dict_tuple | with_reducible exact Rd.kt_dict_list | with_reducible exact Rd.kt_dict_dict | fail "kit")
local macro_rules | `(tactic| walk_at "sz") => `(tactic| first | exact L2.small1000 (by omega) | exact L2.small1000 (by walk_at "ll") | exact Nat.le_of_lt (L2.small1000 (by walk_at "ll")) | fail "sz")
local macro_rules | `(tactic| walk_at "ll0") => `(tactic| with_unfolding_all exact Nat.lt_of_lt_of_le Nat.zero_lt_one (Nat.le_of_ble_eq_true rfl))
/-- what wraps the counters: a width, or a form -/
inductive Wr where
  | width (w : Int)
  | form (s b : Int)
/-- the test for full -/
inductive Fl where
  | plain (k : Str)
  | lim (k g : Str) (s b : Int)
structure Pt where
  wrap : Wr
  slot : Str
  empty : Str
  full : Fl
  wen : Str
def IsWrap (A : Adr) (H : Hp) (v : V) : Wr → Prop
  | .width w => v = .int w
  | .form s b => ∃ p dx, v = .ref p ∧ H p = some (.ins A.c_Form dx (fF s b))
def IsFull (A : Adr) (H : Hp) (v : V) : Fl → Prop
  | .plain k => ∃ p, v = .ref p ∧ H p = some (.tup [.str k])
  | .lim k g s b => ∃ p q dq, v = .ref p ∧ H p = some (.tup [.str k, .str g, .ref q]) ∧ H q = some (.ins A.c_Form dq (fF s b))
theorem IsWrap.same {A : Adr} {H H' : Hp} {v : V} (S : Same H H') : ∀ {t : Wr}, IsWrap A H v t → IsWrap A H' v t
  | .width _, h => h
  | .form _ _, ⟨p, dx, e, h⟩ => ⟨p, dx, e, S _ _ h⟩
theorem IsFull.same {A : Adr} {H H' : Hp} {v : V} (S : Same H H') : ∀ {t : Fl}, IsFull A H v t → IsFull A H' v t
  | .plain _, ⟨p, e, h⟩ => ⟨p, e, S _ _ h⟩
  | .lim _ _ _ _, ⟨p, q, dq, e, h, g⟩ => ⟨p, q, dq, e, S _ _ h, S _ _ g⟩
def wSlot : List Str := ["rest", "off", "mask"]
def wEmpty : List Str := ["same", "count", "note"]
def wWhen : List Str := ["refuse", "drop", "over"]
def wMeas : List Str := ["diff", "count"]
def wSign : List Str := ["=", ">="]
def wPlain : List Str := ["next", "note"]
def WfW : Wr → Prop
  | .width w => 1 ≤ w ∧ w ≤ 100
  | .form s b => 0 ≤ s ∧ s ≤ 4 ∧ -20 ≤ b ∧ b ≤ 20
def WfF : Fl → Prop
  | .plain k => k ∈ wPlain
  | .lim k g s b => k ∈ wMeas ∧ g ∈ wSign ∧ 0 ≤ s ∧ s ≤ 4 ∧ -20 ≤ b ∧ b ≤ 20
structure Wf (p : Pt) : Prop where
  w : WfW p.wrap
  s : p.slot ∈ wSlot
  e : p.empty ∈ wEmpty
  f : WfF p.full
  n : p.wen ∈ wWhen
  m : ∀ s b, p.wrap = .form s b → p.slot ≠ "mask"
/-- the dict of the parts -/
def kvP (w : V) (s e : Str) (f : V) (n : Str) : List (Key × V) := [(.inr "wrap", w), (.inr "slot", .str s), (.inr "empty", .str e), (.inr "full", f), (.inr "when", .str n)]
theorem kvP_wrap (w : V) (s e : Str) (f : V) (n : Str) : valV (kvP w s e f n) (.inr "wrap") = some w := by with_unfolding_all rfl
theorem kvP_slot (w : V) (s e : Str) (f : V) (n : Str) : valV (kvP w s e f n) (.inr "slot") = some (.str s) := by with_unfolding_all rfl
theorem kvP_empty (w : V) (s e : Str) (f : V) (n : Str) : valV (kvP w s e f n) (.inr "empty") = some (.str e) := by with_unfolding_all rfl
theorem kvP_full (w : V) (s e : Str) (f : V) (n : Str) : valV (kvP w s e f n) (.inr "full") = some f := by with_unfolding_all rfl
theorem kvP_when (w : V) (s e : Str) (f : V) (n : Str) : valV (kvP w s e f n) (.inr "when") = some (.str n) := by with_unfolding_all rfl
theorem kvP_merge (w : V) (s e : Str) (f : V) (n : Str) : mergeK [] [(.inr "wrap", w), (.inr "slot", .str s), (.inr "empty", .str e), (.inr "full", f), (.inr "when", .str n)] = kvP w s e f n := by with_unfolding_all rfl
local macro_rules | `(tactic| walk_at "dl") => `(tactic| first | exact kvP_wrap _ _ _ _ _ | exact kvP_slot _ _ _ _ _ | exact kvP_empty _ _ _ _ _ | exact kvP_full _ _ _ _ _ | exact kvP_when _ _ _ _ _ | fail "dl")
def fS (d : Addr) : List (Str × V) := [("_parts", .ref d)]
theorem fS_p (d : Addr) : (fS d).lookup ("_parts" : Str) = some (V.ref d) := by unfold fS; walk_at "lk"
theorem fS_put (d : Addr) : putF "_parts" (.ref d) [] = fS d := rfl
local macro_rules | `(tactic| walk_at "lk") => `(tactic| exact fS_p _)
def IsScheme (A : Adr) (H : Hp) (p : Addr) (t : Pt) : Prop := ∃ dx d vw vf, H p = some (.ins A.c_Scheme dx (fS d)) ∧ H d = some (.dK (kvP vw t.slot t.empty vf t.wen)) ∧ IsWrap A H vw t.wrap ∧ IsFull A H vf t.full
theorem nTrue {p : Prop} [Decidable p] (h : p) : (!decide p) = false := by rw [decide_eq_true h]; rfl
theorem nmask {s : Str} (h : s ≠ "mask") : decide (V.str s = V.str "mask") = false := decide_eq_false fun e => h (V.str.inj e)
local macro_rules | `(tactic| walk_at "bT") => `(tactic| first | with_reducible assumption | with_unfolding_all rfl | exact decide_eq_true (by omega) | exact Rd.inW (by with_reducible assumption) | fail "bT")
local macro_rules | `(tactic| walk_at "bF") => `(tactic| first | with_reducible assumption | with_unfolding_all rfl | exact nTrue (by omega) | (rw [Rd.inW (by with_reducible assumption)]; rfl) | fail "bF")

/-- the drawn parts, as tuples -/
def IsTurn (H : Hp) (v : V) : Wr → Prop
  | .width w => v = .int w
  | .form s b => ∃ p, v = .ref p ∧ H p = some (.tup [.int s, .int b])
def IsFill (H : Hp) (v : V) : Fl → Prop
  | .plain k => ∃ p, v = .ref p ∧ H p = some (.tup [.str k])
  | .lim k g s b => ∃ p q, v = .ref p ∧ H p = some (.tup [.str k, .str g, .ref q]) ∧ H q = some (.tup [.int s, .int b])
theorem IsTurn.same {H H' : Hp} {v : V} (S : Same H H') : ∀ {t : Wr}, IsTurn H v t → IsTurn H' v t
  | .width _, h => h
  | .form _ _, ⟨p, e, h⟩ => ⟨p, e, S _ _ h⟩
theorem IsFill.same {H H' : Hp} {v : V} (S : Same H H') : ∀ {t : Fl}, IsFill H v t → IsFill H' v t
  | .plain _, ⟨p, e, h⟩ => ⟨p, e, S _ _ h⟩
  | .lim _ _ _ _, ⟨p, q, e, h, g⟩ => ⟨p, q, e, S _ _ h, S _ _ g⟩
theorem IsTurn.frm {H H' : Hp} {a : Addr} {x y : Int} {v : V} (F : Frm a H H') (ha : H a = some (.lst [.int x, .int y])) : ∀ {t : Wr}, IsTurn H v t → IsTurn H' v t
  | .width _, h => h
  | .form _ _, ⟨p, e, h⟩ => ⟨p, e, F _ _ h (fun z => by rw [z, ha] at h; cases h)⟩
theorem IsTurn.frmS {H H' : Hp} {a : Addr} {o : HO} {v : V} (F : Frm a H H') (ha : H a = some o) (so : SrcO o) {t : Wr} (h : IsTurn H v t) : IsTurn H' v t := by
  obtain ⟨x, y, rfl, _⟩ := so
  exact h.frm F ha
def IsParts (H : Hp) (v : V) (t : Pt) : Prop := ∃ p vt vf, v = .ref p ∧ H p = some (.tup [vt, .str t.slot, .str t.empty, vf, .str t.wen]) ∧ IsTurn H vt t.wrap ∧ IsFill H vf t.full
/-- a pair of a slope and a base within the bounds -/
def Lim (H : Hp) (v : V) : Prop := ∃ p s b, v = .ref p ∧ H p = some (.tup [.int s, .int b]) ∧ 0 ≤ s ∧ s ≤ 4 ∧ -20 ≤ b ∧ b ≤ 20
theorem Lim.same {H H' : Hp} {v : V} (S : Same H H') : Lim H v → Lim H' v
  | ⟨p, s, b, e, h, g⟩ => ⟨p, s, b, e, S _ _ h, g⟩
theorem IsTurn.keep {H H' : Hp} {v : V} (S : ∀ p xs, H p = some (.tup xs) → H' p = some (.tup xs)) : ∀ {t : Wr}, IsTurn H v t → IsTurn H' v t
  | .width _, h => h
  | .form _ _, ⟨p, e, h⟩ => ⟨p, e, S _ _ h⟩
theorem IsFill.keep {H H' : Hp} {v : V} (S : ∀ p xs, H p = some (.tup xs) → H' p = some (.tup xs)) : ∀ {t : Fl}, IsFill H v t → IsFill H' v t
  | .plain _, ⟨p, e, h⟩ => ⟨p, e, S _ _ h⟩
  | .lim _ _ _ _, ⟨p, q, e, h, g⟩ => ⟨p, q, e, S _ _ h, S _ _ g⟩
theorem Lim.frmS {H H' : Hp} {a : Addr} {o : HO} {v : V} (F : Frm a H H') (ha : H a = some o) (so : SrcO o) : Lim H v → Lim H' v
  | ⟨p, s, b, e, h, g⟩ => ⟨p, s, b, e, F _ _ h (fun z => by obtain ⟨x, y, rfl, _⟩ := so; rw [z, ha] at h; cases h), g⟩

def modV (t : Wr) (n : Int) : Int := match t with
  | .width w => 1 * 2 ^ w.toNat
  | .form s b => s * n + b
/-- the slot of a counter -/
def slotV (k : Str) (n c : Int) : V := if k = "rest" then .int (c % n) else if k = "mask" then .int (Builtin.bitAnd c (n - 1)) else if c < n then .int c else if c < 2 * n then .int (c - n) else .non
theorem slot3 {k : Str} (h : k ∈ wSlot) : k = "rest" ∨ k = "mask" ∨ k = "off" := by
  simp only [wSlot, List.mem_cons, List.not_mem_nil, or_false] at h
  rcases h with h | h | h
  · exact .inl h
  · exact .inr (.inr h)
  · exact .inr (.inl h)
theorem mask_ne_rest : ¬ (("mask" : Str) = "rest") := by decide +kernel
theorem off_ne_rest : ¬ (("off" : Str) = "rest") := by decide +kernel
theorem off_ne_mask : ¬ (("off" : Str) = "mask") := by decide +kernel
theorem slotV_rest (n c : Int) : slotV "rest" n c = .int (c % n) := by unfold slotV; rw [if_pos rfl]
theorem slotV_mask (n c : Int) : slotV "mask" n c = .int (Builtin.bitAnd c (n - 1)) := by unfold slotV; rw [if_neg mask_ne_rest, if_pos rfl]
theorem slotV_off (n c : Int) : slotV "off" n c = if c < n then .int c else if c < 2 * n then .int (c - n) else .non := by unfold slotV; rw [if_neg off_ne_rest, if_neg off_ne_mask]
/-- g is the gap of the counter c -/
def IsGap (k : Str) (n M c g : Int) : Prop := 1 ≤ g ∧ g ≤ M ∧ slotV k n ((c + g) % M) = slotV k n c ∧ ∀ h, 1 ≤ h → h < g → slotV k n ((c + h) % M) ≠ slotV k n c
theorem slotV_scal (k : Str) (n c s : Int) : scal (slotV k n c) (.int s) = true := by
  unfold slotV
  repeat' split
  all_goals rfl
theorem slotV_int {k : Str} {n c : Int} (h : slotV k n c ≠ .non) : ∃ s, slotV k n c = .int s := by
  unfold slotV at h ⊢
  repeat' split
  all_goals first | exact ⟨_, rfl⟩ | (exfalso; simp_all)
theorem pow_le {i : Nat} (h : i ≤ 100) : (2 : Int) ^ i ≤ 2 ^ 100 := by
  have : (2 : Nat) ^ i ≤ 2 ^ 100 := Nat.pow_le_pow_right (by decide) h
  exact_mod_cast this
theorem pow_pos2 (i : Nat) : (0 : Int) < 2 ^ i := Int.pow_pos (by decide)

def Trips (H : Hp) : List V → List (Int × Int × Int) → Prop
  | [], [] => True
  | v :: vs, t :: ts => (∃ p, v = .ref p ∧ H p = some (.tup [.int t.1, .int t.2.1, .int t.2.2])) ∧ Trips H vs ts
  | _, _ => False
def Prs (H : Hp) : List V → List (Int × Int) → Prop
  | [], [] => True
  | v :: vs, t :: ts => (∃ p, v = .ref p ∧ H p = some (.tup [.int t.1, .int t.2])) ∧ Prs H vs ts
  | _, _ => False
theorem Prs.keep {H H' : Hp} (S : ∀ p xs, H p = some (.tup xs) → H' p = some (.tup xs)) : ∀ {vs : List V} {ts : List (Int × Int)}, Prs H vs ts → Prs H' vs ts
  | [], [], _ => True.intro
  | _ :: _, _ :: _, ⟨⟨p, e, h⟩, r⟩ => ⟨⟨p, e, S _ _ h⟩, r.keep S⟩
theorem Trips.at {H : Hp} : ∀ {vs : List V} {ts : List (Int × Int × Int)} {i : Nat} {x : V}, Trips H vs ts → vs[i]? = some x → ∃ p t, ts[i]? = some t ∧ x = .ref p ∧ H p = some (.tup [.int t.1, .int t.2.1, .int t.2.2])
  | _ :: _, t :: _, 0, _, ⟨⟨p, e, h⟩, _⟩, hx => by cases hx; exact ⟨p, t, rfl, e, h⟩
  | _ :: _, _ :: _, i + 1, _, ⟨_, r⟩, hx => r.at (i := i) (by simpa using hx)
theorem Prs.at {H : Hp} : ∀ {vs : List V} {ts : List (Int × Int)} {i : Nat} {x : V}, Prs H vs ts → vs[i]? = some x → ∃ p t, ts[i]? = some t ∧ x = .ref p ∧ H p = some (.tup [.int t.1, .int t.2])
  | _ :: _, t :: _, 0, _, ⟨⟨p, e, h⟩, _⟩, hx => by cases hx; exact ⟨p, t, rfl, e, h⟩
  | _ :: _, _ :: _, i + 1, _, ⟨_, r⟩, hx => r.at (i := i) (by simpa using hx)
theorem Prs.app {H : Hp} {p : Addr} {t : Int × Int} (h : H p = some (.tup [.int t.1, .int t.2])) : ∀ {vs : List V} {ts : List (Int × Int)}, Prs H vs ts → Prs H (vs ++ [.ref p]) (ts ++ [t])
  | [], [], _ => ⟨⟨p, rfl, h⟩, True.intro⟩
  | _ :: _, _ :: _, ⟨a, r⟩ => ⟨a, r.app h⟩
theorem Trips.len {H : Hp} : ∀ {vs : List V} {ts : List (Int × Int × Int)}, Trips H vs ts → vs.length = ts.length
  | [], [], _ => rfl
  | _ :: vs, _ :: ts, ⟨_, r⟩ => by simp [r.len]
theorem Prs.len {H : Hp} : ∀ {vs : List V} {ts : List (Int × Int)}, Prs H vs ts → vs.length = ts.length
  | [], [], _ => rfl
  | _ :: vs, _ :: ts, ⟨_, r⟩ => by simp [r.len]
theorem andF {p q : Prop} [Decidable p] [Decidable q] (h : ¬ (p ∧ q)) : (decide p && decide q) = false := by
  by_cases hp : p
  · rw [decide_eq_true hp, decide_eq_false (fun hq => h ⟨hp, hq⟩)]; rfl
  · rw [decide_eq_false hp]; rfl
local macro_rules | `(tactic| walk_at "bF") => `(tactic| first | exact andF (by with_reducible assumption) | fail "bF")
/-- where a counter is asked for its gap -/
def restSpans (n M : Int) : List (Int × Int × Int) := if M ≤ n then [(0, M, M)] else if M % n = 0 then [(0, M, n)] else [(0, M - n, n), (M - n, M - M % n, n + M % n), (M - M % n, M, M % n)]
def offSpans (n M : Int) : List (Int × Int × Int) := if M ≤ n then [(0, M, M)] else if M < 2 * n then [(0, M - n, n), (M - n, n, M), (n, M, M - n)] else [(0, n, n), (n, 2 * n, M - n)]
def stepsTo (f e M c : Int) : Int := if f ≤ c ∧ c < e then 0 else (f - c) % M

/-- steps to the next counter with these bits -/
def stb (M mask bits c : Int) : Int :=
  if Builtin.bitAnd (Builtin.bitXor c bits) mask = 0 then 0 else
  if Builtin.bitAnd c (1 * 2 ^ (((Builtin.Int.intBits (Builtin.bitAnd (Builtin.bitXor c bits) mask) : Nat) : Int) - 1).toNat) ≠ 0 then
    (Builtin.bitOr (Builtin.bitAnd (Builtin.bitOr (Builtin.bitOr c mask) (2 * (1 * 2 ^ (((Builtin.Int.intBits (Builtin.bitAnd (Builtin.bitXor c bits) mask) : Nat) : Int) - 1).toNat) - 1) + 1) (M - 1 - mask)) bits - c) % M
  else
    (Builtin.bitOr (Builtin.bitOr c (2 * (1 * 2 ^ (((Builtin.Int.intBits (Builtin.bitAnd (Builtin.bitXor c bits) mask) : Nat) : Int) - 1).toNat) - 1) - (2 * (1 * 2 ^ (((Builtin.Int.intBits (Builtin.bitAnd (Builtin.bitXor c bits) mask) : Nat) : Int) - 1).toNat) - 1)) (Builtin.bitAnd bits (2 * (1 * 2 ^ (((Builtin.Int.intBits (Builtin.bitAnd (Builtin.bitXor c bits) mask) : Nat) : Int) - 1).toNat) - 1)) - c) % M
def mgLoop (free M c : Int) : Nat → Int → Int → List (Int × Int) → List (Int × Int)
  | 0, _, _, acc => acc
  | k + 1, lower, bit, acc => if bit < M then (if Builtin.bitAnd free bit ≠ 0 then mgLoop free M c k (Builtin.bitOr lower bit) (2 * bit) (acc ++ [(stb M (Builtin.bitOr lower bit) lower c, bit - lower)]) else mgLoop free M c k lower (2 * bit) acc) else acc
def freeOf (n M : Int) : Int := M - 1 - Builtin.bitAnd (n - 1) (M - 1)
def maskGaps (n M c : Int) : List (Int × Int) := mgLoop (freeOf n M) M c 101 0 1 [] ++ [(stb M (freeOf n M) (freeOf n M) c, M - freeOf n M)]
theorem mg_len (free M c : Int) : ∀ (k : Nat) (l b : Int) (acc : List (Int × Int)), (mgLoop free M c k l b acc).length ≤ acc.length + k
  | 0, _, _, _ => Nat.le_refl _
  | k + 1, l, b, acc => by
    unfold mgLoop
    split
    · split
      · have := mg_len free M c k (Builtin.bitOr l b) (2 * b) (acc ++ [(stb M (Builtin.bitOr l b) l c, b - l)])
        rw [List.length_append] at this
        simp only [List.length_cons, List.length_nil] at this
        omega
      · have := mg_len free M c k l (2 * b) acc
        omega
    · omega
theorem mask_len (n M c : Int) : (maskGaps n M c).length ≤ 102 := by
  have := mg_len (freeOf n M) M c 101 0 1 []
  unfold maskGaps
  rw [List.length_append]
  simp only [List.length_cons, List.length_nil] at this ⊢
  omega

def gapsOf (ts : List (Int × Int × Int)) (M c : Int) : List (Int × Int) := ts.map fun t => (stepsTo t.1 t.2.1 M c, t.2.2)
theorem rest_len (n M : Int) : (restSpans n M).length ≤ 3 := by
  unfold restSpans
  split
  · simp
  · split <;> simp
theorem off_len (n M : Int) : (offSpans n M).length ≤ 3 := by
  unfold offSpans
  split
  · simp
  · split <;> simp
def gapsM (k : Str) (n M c : Int) : List (Int × Int) := if k = "mask" then maskGaps n M c else if k = "off" then gapsOf (offSpans n M) M c else gapsOf (restSpans n M) M c
theorem gapsM_mask (n M c : Int) : gapsM "mask" n M c = maskGaps n M c := if_pos rfl
theorem gapsM_off (n M c : Int) : gapsM "off" n M c = gapsOf (offSpans n M) M c := by unfold gapsM; rw [if_neg off_ne_mask, if_pos rfl]
theorem rest_ne_off : ¬ (("rest" : Str) = "off") := by decide +kernel
theorem rest_ne_mask : ¬ (("rest" : Str) = "mask") := by decide +kernel
theorem gapsM_rest (n M c : Int) : gapsM "rest" n M c = gapsOf (restSpans n M) M c := by unfold gapsM; rw [if_neg rest_ne_mask, if_neg rest_ne_off]

def GapsOk (k : Str) (n M c : Int) : Prop := (∀ x ∈ gapsM k n M c, x.1 = 0 → IsGap k n M c x.2) ∧ ∃ x ∈ gapsM k n M c, x.1 = 0
def zeros (gs : List (Int × Int)) : List Int := (gs.filter fun x => decide (x.1 = 0)).map (·.2)
theorem zeros_mem {gs : List (Int × Int)} {g : Int} (h : g ∈ zeros gs) : ∃ x ∈ gs, x.1 = 0 ∧ x.2 = g := by
  unfold zeros at h
  obtain ⟨x, hx, e⟩ := List.mem_map.mp h
  obtain ⟨h1, h2⟩ := List.mem_filter.mp hx
  exact ⟨x, h1, of_decide_eq_true h2, e⟩
theorem zeros_pos {gs : List (Int × Int)} (h : ∃ x ∈ gs, x.1 = 0) : 0 < (zeros gs).length := by
  obtain ⟨x, hx, e⟩ := h
  exact List.length_pos_of_mem (List.mem_map.mpr ⟨x, List.mem_filter.mpr ⟨hx, decide_eq_true e⟩, rfl⟩)
theorem zeros_in {gs : List (Int × Int)} {i : Nat} {s g : Int} (h : gs[i]? = some (s, g)) (e : s = 0) : zeros (gs.take (i + 1)) = zeros (gs.take i) ++ [g] := by
  unfold zeros
  rw [List.take_add_one, h, List.filter_append, List.map_append]
  simp [e]
theorem zeros_out {gs : List (Int × Int)} {i : Nat} {s g : Int} (h : gs[i]? = some (s, g)) (e : ¬ s = 0) : zeros (gs.take (i + 1)) = zeros (gs.take i) := by
  unfold zeros
  rw [List.take_add_one, h, List.filter_append, List.map_append]
  simp [e]
theorem zeros_len (gs : List (Int × Int)) : (zeros gs).length ≤ gs.length := by
  unfold zeros
  rw [List.length_map]
  exact List.length_filter_le _ _
local macro_rules | `(tactic| walk_at "bT") => `(tactic| first | exact decide_eq_true (by with_reducible assumption) | fail "bT")
local macro_rules | `(tactic| walk_at "bF") => `(tactic| first | exact decide_eq_false (by with_reducible assumption) | fail "bF")

theorem ne_mod {x h n : Int} (h0 : 0 < h) (hn : h < n) : (x + h) % n ≠ x % n := by
  intro e
  have := Int.emod_eq_emod_iff_emod_sub_eq_zero.mp e
  rw [show x + h - x = h by omega, Int.emod_eq_of_lt (by omega) hn] at this
  omega
theorem ne_modn {x h n : Int} (h0 : 0 < h) (hn : h < n) : (x - h) % n ≠ x % n := by
  intro e
  refine ne_mod (x := x - h) h0 hn ?_
  rw [show x - h + h = x by omega]
  exact e.symm
theorem wrapM {c h M : Int} (c0 : 0 ≤ c) (cM : c < M) (h0 : 0 ≤ h) (hM : h ≤ M) : (c + h < M ∧ (c + h) % M = c + h) ∨ (M ≤ c + h ∧ (c + h) % M = c + h - M) := by
  rcases Int.lt_or_le (c + h) M with q | q
  · exact .inl ⟨q, Int.emod_eq_of_lt (by omega) q⟩
  · refine .inr ⟨q, ?_⟩
    rw [show c + h = (c + h - M) + M by omega, Int.add_emod_right, Int.emod_eq_of_lt (by omega) (by omega)]
    omega
theorem modM (n M x : Int) : (x - M) % n = (x - M % n) % n := by
  have e := Int.emod_def M n
  rw [e, show x - (M - n * (M / n)) = (x - M) + n * (M / n) by omega, Int.add_mul_emod_self_left]
theorem steps0 {f e M c : Int} (fe : f < e) (f0 : 0 ≤ f) (fM : f < M) (c0 : 0 ≤ c) (cM : c < M) (h : stepsTo f e M c = 0) : f ≤ c ∧ c < e := by
  unfold stepsTo at h
  split at h
  · assumption
  · rename_i q
    exfalso
    rcases Int.lt_or_le c f with z | z
    · rw [Int.emod_eq_of_lt (by omega) (by omega)] at h
      omega
    · rw [show f - c = (f - c + M) + M * (-1) by omega, Int.add_mul_emod_self_left, Int.emod_eq_of_lt (by omega) (by omega)] at h
      omega
theorem steps_in {f e M c : Int} (h : f ≤ c ∧ c < e) : stepsTo f e M c = 0 := if_pos h
theorem gap_rest {n M c : Int} (n1 : 1 ≤ n) (c0 : 0 ≤ c) (cM : c < M) : GapsOk "rest" n M c := by
  unfold GapsOk
  rw [gapsM_rest]
  have S : ∀ x, slotV "rest" n x = .int (x % n) := fun x => slotV_rest n x
  have R : ∀ {x y : Int}, x % n = y % n → slotV "rest" n x = slotV "rest" n y := fun e => by rw [S, S, e]
  have N : ∀ {x y : Int}, x % n ≠ y % n → slotV "rest" n x ≠ slotV "rest" n y := fun e z => by rw [S, S] at z; exact e (V.int.inj z)
  have hl0 := Int.emod_nonneg M (show n ≠ 0 by omega)
  have hl1 := Int.emod_lt_of_pos M (show 0 < n by omega)
  unfold restSpans gapsOf
  split
  · rename_i q
    refine ⟨fun x hx x0 => ?_, ⟨_, List.mem_map.mpr ⟨_, List.mem_cons_self .., rfl⟩, steps_in ⟨c0, cM⟩⟩⟩
    simp only [List.map_cons, List.map_nil, List.mem_singleton] at hx
    subst hx
    refine ⟨by show 1 ≤ M; omega, Int.le_refl _, R (by rw [Int.add_emod_right, Int.emod_eq_of_lt c0 cM]), fun h h1 h2 => N ?_⟩
    have h2 : h < M := h2
    rcases wrapM (h := h) c0 cM (by omega) (by omega) with ⟨a, b⟩ | ⟨a, b⟩
    · rw [b, Int.emod_eq_of_lt (by omega) (by omega), Int.emod_eq_of_lt (by omega) (by omega)]; omega
    · rw [b, Int.emod_eq_of_lt (by omega) (by omega), Int.emod_eq_of_lt (by omega) (by omega)]; omega
  · rename_i q
    split
    · rename_i g
      refine ⟨fun x hx x0 => ?_, ⟨_, List.mem_map.mpr ⟨_, List.mem_cons_self .., rfl⟩, steps_in ⟨c0, cM⟩⟩⟩
      simp only [List.map_cons, List.map_nil, List.mem_singleton] at hx
      subst hx
      have dv : n ∣ M := Int.dvd_of_emod_eq_zero g
      refine ⟨n1, by show n ≤ M; omega, R ?_, fun h h1 h2 => N ?_⟩
      · show (c + n) % M % n = c % n
        rw [Int.emod_emod_of_dvd _ dv, Int.add_emod_right]
      · rw [Int.emod_emod_of_dvd _ dv]
        exact ne_mod (by omega) h2
    · rename_i g
      have lp : 0 < M % n := by omega
      have hq : n + M % n ≤ M := by
        have e := Int.emod_def M n
        have d1 : 1 ≤ M / n := (Int.le_ediv_iff_mul_le (by omega)).mpr (by omega)
        have : n * 1 ≤ n * (M / n) := Int.mul_le_mul_of_nonneg_left d1 (by omega)
        omega
      have G1 : c < M - n → IsGap "rest" n M c n := fun hc => by
        refine ⟨n1, by omega, R ?_, fun h h1 h2 => N ?_⟩
        · rw [Int.emod_eq_of_lt (show 0 ≤ c + n by omega) (by omega), Int.add_emod_right]
        · rw [Int.emod_eq_of_lt (show 0 ≤ c + h by omega) (by omega)]
          exact ne_mod (by omega) h2
      have G2 : M - n ≤ c → c < M - M % n → IsGap "rest" n M c (n + M % n) := fun ha hb => by
        refine ⟨by omega, hq, R ?_, fun h h1 h2 => N ?_⟩
        · rcases wrapM (h := n + M % n) c0 cM (by omega) hq with ⟨a, b⟩ | ⟨a, b⟩
          · omega
          · rw [b, modM, show c + (n + M % n) - M % n = c + n by omega, Int.add_emod_right]
        · rcases wrapM (h := h) c0 cM (by omega) (by omega) with ⟨a, b⟩ | ⟨a, b⟩
          · rw [b]; exact ne_mod (by omega) (by omega)
          · rw [b, modM, show c + h - M % n = c + (h - M % n) by omega]
            exact ne_mod (by omega) (by omega)
      have G3 : M - M % n ≤ c → IsGap "rest" n M c (M % n) := fun ha => by
        refine ⟨by omega, by omega, R ?_, fun h h1 h2 => N ?_⟩
        · rcases wrapM (h := M % n) c0 cM (by omega) (by omega) with ⟨a, b⟩ | ⟨a, b⟩
          · omega
          · rw [b, modM, show c + M % n - M % n = c by omega]
        · rcases wrapM (h := h) c0 cM (by omega) (by omega) with ⟨a, b⟩ | ⟨a, b⟩
          · rw [b]; exact ne_mod (by omega) (by omega)
          · rw [b, modM, show c + h - M % n = c - (M % n - h) by omega]
            exact ne_modn (by omega) (by omega)
      refine ⟨fun x hx x0 => ?_, ?_⟩
      · simp only [List.map_cons, List.map_nil, List.mem_cons, List.not_mem_nil, or_false] at hx
        rcases hx with rfl | rfl | rfl
        · have := steps0 (by omega) (by omega) (by omega) c0 cM x0
          exact G1 this.2
        · have := steps0 (by omega) (by omega) (by omega) c0 cM x0
          exact G2 this.1 this.2
        · have := steps0 (by omega) (by omega) (by omega) c0 cM x0
          exact G3 this.1
      · rcases (by omega : c < M - n ∨ (M - n ≤ c ∧ c < M - M % n) ∨ M - M % n ≤ c) with z | z | z
        · exact ⟨_, List.mem_map.mpr ⟨_, List.mem_cons_self .., rfl⟩, steps_in ⟨c0, z⟩⟩
        · exact ⟨_, List.mem_map.mpr ⟨_, List.mem_cons_of_mem _ (List.mem_cons_self ..), rfl⟩, steps_in z⟩
        · exact ⟨_, List.mem_map.mpr ⟨_, List.mem_cons_of_mem _ (List.mem_cons_of_mem _ (List.mem_cons_self ..)), rfl⟩, steps_in ⟨z, cM⟩⟩
theorem off_lo {n x : Int} (h : x < n) : slotV "off" n x = .int x := by rw [slotV_off, if_pos h]
theorem off_hi {n x : Int} (h : ¬ x < n) (g : x < 2 * n) : slotV "off" n x = .int (x - n) := by rw [slotV_off, if_neg h, if_pos g]
theorem off_out {n x : Int} (h : ¬ x < 2 * n) (hn : 1 ≤ n) : slotV "off" n x = .non := by rw [slotV_off, if_neg (by omega), if_neg h]
theorem off_ne {n x s : Int} (hn : 1 ≤ n) (h1 : x < n → x ≠ s) (h2 : ¬ x < n → x < 2 * n → x - n ≠ s) : slotV "off" n x ≠ .int s := by
  rcases Int.lt_or_le x n with q | q
  · rw [off_lo q]; exact fun z => h1 q (V.int.inj z)
  · rcases Int.lt_or_le x (2 * n) with g | g
    · rw [off_hi (by omega) g]; exact fun z => h2 (by omega) g (V.int.inj z)
    · rw [off_out (by omega) hn]; exact fun z => by cases z
theorem gap_off {n M c : Int} (n1 : 1 ≤ n) (c0 : 0 ≤ c) (cM : c < M) (hs : slotV "off" n c ≠ .non) : GapsOk "off" n M c := by
  have c2 : c < 2 * n := by
    rcases Int.lt_or_le c (2 * n) with q | q
    · exact q
    · exact absurd (off_out (by omega) n1) hs
  unfold GapsOk
  rw [gapsM_off]
  unfold offSpans gapsOf
  split
  · rename_i q
    refine ⟨fun x hx x0 => ?_, ⟨_, List.mem_map.mpr ⟨_, List.mem_cons_self .., rfl⟩, steps_in ⟨c0, cM⟩⟩⟩
    simp only [List.map_cons, List.map_nil, List.mem_singleton] at hx
    subst hx
    refine ⟨by show 1 ≤ M; omega, Int.le_refl _, by rw [Int.add_emod_right, Int.emod_eq_of_lt c0 cM], fun h h1 h2 => ?_⟩
    have h2 : h < M := h2
    rw [off_lo (show c < n by omega)]
    rcases wrapM (h := h) c0 cM (by omega) (by omega) with ⟨a, b⟩ | ⟨a, b⟩ <;> rw [b] <;> exact off_ne n1 (by omega) (by omega)
  · rename_i q
    split
    · rename_i g
      have G1 : c < M - n → IsGap "off" n M c n := fun hc => by
        refine ⟨n1, by omega, ?_, fun h h1 h2 => ?_⟩
        · rw [Int.emod_eq_of_lt (show 0 ≤ c + n by omega) (by omega), off_hi (by omega) (by omega), off_lo (by omega)]
          congr 1; omega
        · rw [off_lo (show c < n by omega), Int.emod_eq_of_lt (show 0 ≤ c + h by omega) (by omega)]
          exact off_ne n1 (by omega) (by omega)
      have G2 : M - n ≤ c → c < n → IsGap "off" n M c M := fun ha hb => by
        refine ⟨by omega, Int.le_refl _, by rw [Int.add_emod_right, Int.emod_eq_of_lt c0 cM], fun h h1 h2 => ?_⟩
        rw [off_lo hb]
        rcases wrapM (h := h) c0 cM (by omega) (by omega) with ⟨a, b⟩ | ⟨a, b⟩ <;> rw [b] <;> exact off_ne n1 (by omega) (by omega)
      have G3 : n ≤ c → IsGap "off" n M c (M - n) := fun ha => by
        refine ⟨by omega, by omega, ?_, fun h h1 h2 => ?_⟩
        · rcases wrapM (h := M - n) c0 cM (by omega) (by omega) with ⟨a, b⟩ | ⟨a, b⟩
          · omega
          · rw [b, off_hi (show ¬ c < n by omega) (by omega), off_lo (by omega)]
            congr 1; omega
        · rw [off_hi (show ¬ c < n by omega) (by omega)]
          rcases wrapM (h := h) c0 cM (by omega) (by omega) with ⟨a, b⟩ | ⟨a, b⟩ <;> rw [b] <;> exact off_ne n1 (by omega) (by omega)
      refine ⟨fun x hx x0 => ?_, ?_⟩
      · simp only [List.map_cons, List.map_nil, List.mem_cons, List.not_mem_nil, or_false] at hx
        rcases hx with rfl | rfl | rfl
        · exact G1 (steps0 (by omega) (by omega) (by omega) c0 cM x0).2
        · have := steps0 (by omega) (by omega) (by omega) c0 cM x0
          exact G2 this.1 this.2
        · exact G3 (steps0 (by omega) (by omega) (by omega) c0 cM x0).1
      · rcases (by omega : c < M - n ∨ (M - n ≤ c ∧ c < n) ∨ n ≤ c) with z | z | z
        · exact ⟨_, List.mem_map.mpr ⟨_, List.mem_cons_self .., rfl⟩, steps_in ⟨c0, z⟩⟩
        · exact ⟨_, List.mem_map.mpr ⟨_, List.mem_cons_of_mem _ (List.mem_cons_self ..), rfl⟩, steps_in z⟩
        · exact ⟨_, List.mem_map.mpr ⟨_, List.mem_cons_of_mem _ (List.mem_cons_of_mem _ (List.mem_cons_self ..)), rfl⟩, steps_in ⟨z, cM⟩⟩
    · rename_i g
      have G1 : c < n → IsGap "off" n M c n := fun hc => by
        refine ⟨n1, by omega, ?_, fun h h1 h2 => ?_⟩
        · rw [Int.emod_eq_of_lt (show 0 ≤ c + n by omega) (by omega), off_hi (by omega) (by omega), off_lo (by omega)]
          congr 1; omega
        · rw [off_lo (show c < n by omega), Int.emod_eq_of_lt (show 0 ≤ c + h by omega) (by omega)]
          exact off_ne n1 (by omega) (by omega)
      have G3 : n ≤ c → IsGap "off" n M c (M - n) := fun ha => by
        refine ⟨by omega, by omega, ?_, fun h h1 h2 => ?_⟩
        · rcases wrapM (h := M - n) c0 cM (by omega) (by omega) with ⟨a, b⟩ | ⟨a, b⟩
          · omega
          · rw [b, off_hi (show ¬ c < n by omega) (by omega), off_lo (by omega)]
            congr 1; omega
        · rw [off_hi (show ¬ c < n by omega) (by omega)]
          rcases wrapM (h := h) c0 cM (by omega) (by omega) with ⟨a, b⟩ | ⟨a, b⟩ <;> rw [b] <;> exact off_ne n1 (by omega) (by omega)
      refine ⟨fun x hx x0 => ?_, ?_⟩
      · simp only [List.map_cons, List.map_nil, List.mem_cons, List.not_mem_nil, or_false] at hx
        rcases hx with rfl | rfl
        · exact G1 (steps0 (by omega) (by omega) (by omega) c0 cM x0).2
        · exact G3 (steps0 (by omega) (by omega) (by omega) c0 cM x0).1
      · rcases (by omega : c < n ∨ n ≤ c) with z | z
        · exact ⟨_, List.mem_map.mpr ⟨_, List.mem_cons_self .., rfl⟩, steps_in ⟨c0, z⟩⟩
        · exact ⟨_, List.mem_map.mpr ⟨_, List.mem_cons_of_mem _ (List.mem_cons_self ..), rfl⟩, steps_in ⟨z, c2⟩⟩
theorem nb_m2 (a b : Nat) : (a ^^^ b) % 2 = (a % 2) ^^^ (b % 2) ∧ (a &&& b) % 2 = (a % 2) &&& (b % 2) := by
  have h1 := Nat.xor_mod_two_pow (a := a) (b := b) (n := 1)
  have h2 := Nat.and_mod_two_pow (a := a) (b := b) (n := 1)
  simp only [Nat.pow_one] at h1 h2
  exact ⟨h1, h2⟩
theorem nb_xor (a b : Nat) : (a ^^^ b) + 2 * (a &&& b) = a + b := by
  induction a using Nat.strongRecOn generalizing b with
  | ind a ih =>
    rcases Nat.eq_zero_or_pos a with rfl | h
    · simp
    · have e := ih (a / 2) (by omega) (b / 2)
      have x1 : (a ^^^ b) / 2 = a / 2 ^^^ b / 2 := Nat.xor_div_two
      have x3 : (a &&& b) / 2 = a / 2 &&& b / 2 := Nat.and_div_two
      obtain ⟨x2, x4⟩ := nb_m2 a b
      rw [← x1, ← x3] at e
      rcases Nat.mod_two_eq_zero_or_one a with p | p <;> rcases Nat.mod_two_eq_zero_or_one b with q | q <;> rw [p, q] at x4 x2 <;> simp only [Nat.reduceXor, Nat.reduceAnd] at x4 x2 <;> omega
theorem nb_or (a b : Nat) (h : a &&& b = 0) : a ||| b = a + b := by
  have := nb_xor a b
  rw [h, Nat.mul_zero, Nat.add_zero] at this
  rw [← this]
  apply Nat.eq_of_testBit_eq
  intro i
  have := congrArg (Nat.testBit · i) h
  simp only [Nat.testBit_and, Nat.zero_testBit] at this
  rw [Nat.testBit_or, Nat.testBit_xor]
  revert this
  cases a.testBit i <;> cases b.testBit i <;> simp
theorem nb_split {j f u y : Nat} (d : f &&& u = 0) (o : f ||| u = 2 ^ j - 1) (hy : y < 2 ^ j) : (y &&& f) + (y &&& u) = y := by
  rw [← nb_or]
  · rw [← Nat.and_or_distrib_left, o, Nat.and_two_pow_sub_one_eq_mod, Nat.mod_eq_of_lt hy]
  · rw [show (y &&& f) &&& (y &&& u) = y &&& (f &&& u) by
      apply Nat.eq_of_testBit_eq
      intro i
      simp only [Nat.testBit_and]
      cases y.testBit i <;> cases f.testBit i <;> cases u.testBit i <;> rfl, d, Nat.and_zero]
theorem nb_low {j f u c h : Nat} (d : f &&& u = 0) (o : f ||| u = 2 ^ j - 1) (fl : f < 2 ^ j) (cl : c < 2 ^ j) (hc : c &&& f = f)
    (h1 : 1 ≤ h) (h2 : h < 2 ^ j - f) : (c + h) % 2 ^ j &&& u ≠ c &&& u := by
  intro e
  have s1 := nb_split d o cl
  rw [hc] at s1
  rcases Nat.lt_or_ge (c + h) (2 ^ j) with q | q
  · rw [Nat.mod_eq_of_lt q] at e
    have s2 := nb_split d o q
    have := Nat.and_le_right (n := c + h) (m := f)
    omega
  · rw [Nat.mod_eq_sub_mod q, Nat.mod_eq_of_lt (by omega)] at e
    have := Nat.and_le_left (n := c + h - 2 ^ j) (m := u)
    omega
/-- the free bits of a mask -/
structure Fr (w F m : Nat) : Prop where
  ff : F < 2 ^ w
  mm : m < 2 ^ w
  bb : ∀ i, F.testBit i = (decide (i < w) && !m.testBit i)
theorem Fr.of {w m : Nat} (h : m < 2 ^ w) : Fr w (2 ^ w - 1 - m) m := by
  refine ⟨by omega, h, fun i => ?_⟩
  rw [show 2 ^ w - 1 - m = 2 ^ w - (m + 1) by omega, Nat.testBit_two_pow_sub_succ h]
theorem Fr.d {w F m : Nat} (h : Fr w F m) : F &&& m = 0 := by
  apply Nat.eq_of_testBit_eq
  intro i
  rw [Nat.testBit_and, h.bb, Nat.zero_testBit]
  cases decide (i < w) <;> cases m.testBit i <;> rfl
theorem nb_hi {x w i : Nat} (h : x < 2 ^ w) (g : w ≤ i) : x.testBit i = false := Nat.testBit_lt_two_pow (Nat.lt_of_lt_of_le h (Nat.pow_le_pow_right (by decide) g))
theorem Fr.o {w F m : Nat} (h : Fr w F m) : F ||| m = 2 ^ w - 1 := by
  apply Nat.eq_of_testBit_eq
  intro i
  rw [Nat.testBit_or, h.bb, Nat.testBit_two_pow_sub_one]
  rcases Nat.lt_or_ge i w with g | g
  · rw [decide_eq_true g]; cases m.testBit i <;> rfl
  · rw [decide_eq_false (by omega), nb_hi h.mm g]; rfl
def Cov (F c k : Nat) : Prop := ∀ i, i < k → F.testBit i = true → c.testBit i = true
theorem Fr.cov {w F m : Nat} (h : Fr w F m) (c : Nat) : ∀ k, k ≤ w → (∃ j, j < k ∧ F.testBit j = true ∧ Cov F c j ∧ c.testBit j = false) ∨ Cov F c k
  | 0, _ => .inr fun i hi => absurd hi (by omega)
  | k + 1, hk => by
    rcases h.cov c k (by omega) with ⟨j, h1, h2⟩ | h1
    · exact .inl ⟨j, by omega, h2⟩
    · cases q : c.testBit k with
      | false =>
        cases p : F.testBit k with
        | true => exact .inl ⟨k, by omega, p, h1, q⟩
        | false =>
          refine .inr fun i hi hf => ?_
          rcases (by omega : i < k ∨ i = k) with z | rfl
          · exact h1 i z hf
          · rw [p] at hf; cases hf
      | true =>
        refine .inr fun i hi hf => ?_
        rcases (by omega : i < k ∨ i = k) with z | rfl
        · exact h1 i z hf
        · exact q
/-- below a free bit -/
theorem Fr.lt {w F m j c h : Nat} (r : Fr w F m) (hj : j ≤ w) (hc : Cov F c j) (h1 : 1 ≤ h) (h2 : h < 2 ^ j - F % 2 ^ j) : (c + h) % 2 ^ w &&& m ≠ c &&& m := by
  intro e
  have e2 := congrArg (· % 2 ^ j) e
  simp only [Nat.and_mod_two_pow] at e2
  rw [Nat.mod_mod_of_dvd _ (Nat.pow_dvd_pow 2 hj), Nat.add_mod, ] at e2
  have hp : 0 < 2 ^ j := Nat.pos_of_ne_zero (by simp)
  refine nb_low (j := j) (f := F % 2 ^ j) (u := m % 2 ^ j) (c := c % 2 ^ j) (h := h) ?_ ?_ (Nat.mod_lt _ hp) (Nat.mod_lt _ hp) ?_ h1 h2 ?_
  · rw [← Nat.and_mod_two_pow, r.d, Nat.zero_mod]
  · rw [← Nat.or_mod_two_pow, r.o]
    apply Nat.eq_of_testBit_eq
    intro i
    rw [Nat.testBit_mod_two_pow, Nat.testBit_two_pow_sub_one, Nat.testBit_two_pow_sub_one]
    by_cases g : i < j
    · rw [decide_eq_true g, decide_eq_true (by omega)]; rfl
    · rw [decide_eq_false g]; rfl
  · apply Nat.eq_of_testBit_eq
    intro i
    rw [Nat.testBit_and, Nat.testBit_mod_two_pow, Nat.testBit_mod_two_pow]
    by_cases g : i < j
    · cases q : F.testBit i with
      | true => rw [hc i g q]; simp
      | false => simp
    · rw [decide_eq_false g]; rfl
  · rw [← e2, Nat.mod_eq_of_lt (show h < 2 ^ j by omega)]
/-- at a free bit -/
theorem Fr.at {w F m j c : Nat} (r : Fr w F m) (cw : c < 2 ^ w) (hj : j < w) (hf : F.testBit j = true) (hc : Cov F c j) (hn : c.testBit j = false) :
    c + (2 ^ j - F % 2 ^ j) < 2 ^ w ∧ (c + (2 ^ j - F % 2 ^ j)) &&& m = c &&& m := by
  have hp : 0 < 2 ^ j := Nat.pos_of_ne_zero (by simp)
  have hl := Nat.mod_lt F hp
  have q1 : F % 2 ^ j &&& 2 ^ j = 0 := by
    apply Nat.eq_of_testBit_eq
    intro i
    rw [Nat.testBit_and, Nat.testBit_mod_two_pow, Nat.testBit_two_pow, Nat.zero_testBit]
    by_cases g : i < j
    · rw [decide_eq_false (show ¬ j = i by omega)]; simp
    · rw [decide_eq_false g]; rfl
  have q2 := nb_or _ _ q1
  have q3 : c &&& (F % 2 ^ j ||| 2 ^ j) = F % 2 ^ j := by
    apply Nat.eq_of_testBit_eq
    intro i
    rw [Nat.testBit_and, Nat.testBit_or, Nat.testBit_mod_two_pow, Nat.testBit_two_pow]
    by_cases g : i < j
    · rw [decide_eq_true g, decide_eq_false (show ¬ j = i by omega)]
      cases q : F.testBit i with
      | true => rw [hc i g q]; rfl
      | false => simp
    · rw [decide_eq_false g]
      by_cases z : j = i
      · subst z; rw [hn]; rfl
      · rw [decide_eq_false z]; simp
  have q4 := nb_xor c (F % 2 ^ j ||| 2 ^ j)
  rw [q3] at q4
  have q5 : c + (2 ^ j - F % 2 ^ j) = c ^^^ (F % 2 ^ j ||| 2 ^ j) := by omega
  rw [q5]
  refine ⟨Nat.xor_lt_two_pow cw (Nat.or_lt_two_pow (Nat.lt_of_lt_of_le hl (Nat.pow_le_pow_right (by decide) (by omega))) (Nat.pow_lt_pow_right (by decide) hj)), ?_⟩
  apply Nat.eq_of_testBit_eq
  intro i
  rw [Nat.testBit_and, Nat.testBit_and, Nat.testBit_xor, Nat.testBit_or, Nat.testBit_mod_two_pow, Nat.testBit_two_pow]
  cases q : m.testBit i with
  | false => simp
  | true =>
    have h1 : F.testBit i = false := by rw [r.bb, q]; simp
    have h2 : ¬ j = i := fun z => by subst z; rw [h1] at hf; cases hf
    rw [h1, decide_eq_false h2]
    simp
theorem Fr.all {w F m c : Nat} (r : Fr w F m) (cw : c < 2 ^ w) (hc : Cov F c w) : (c + (2 ^ w - F)) % 2 ^ w &&& m = c &&& m := by
  have e : c &&& F = F := by
    apply Nat.eq_of_testBit_eq
    intro i
    rw [Nat.testBit_and]
    cases q : F.testBit i with
    | false => simp
    | true =>
      have : i < w := by
        rcases Nat.lt_or_ge i w with z | z
        · exact z
        · rw [nb_hi r.ff z] at q; cases q
      rw [hc i this q]; rfl
  have s := nb_split r.d r.o cw
  have hf := r.ff
  rw [e] at s
  rw [show c + (2 ^ w - F) = (c &&& m) + 2 ^ w by omega, Nat.add_mod_right, Nat.mod_eq_of_lt (by omega), Nat.and_assoc, Nat.and_self]
/-- no step where bits differ -/
theorem nb_stepA {w mask bits c x : Nat} (hk : mask < 2 ^ w) (hb : bits < 2 ^ w) (t : Nat) (tm : mask.testBit t = true) (tc : c.testBit t = true) (tb : bits.testBit t = false) :
    (x &&& (2 ^ w - 1 - mask)) ||| bits ≠ c ∧ (x &&& (2 ^ w - 1 - mask)) ||| bits < 2 ^ w := by
  constructor
  · intro e
    have := congrArg (Nat.testBit · t) e
    simp only [Nat.testBit_or, Nat.testBit_and] at this
    rw [(Fr.of hk).bb, tm, tc, tb] at this
    simp at this
  · exact Nat.or_lt_two_pow (Nat.lt_of_le_of_lt Nat.and_le_right (by omega)) hb
theorem nb_stepB {w bits c : Nat} (hc : c < 2 ^ w) (hb : bits < 2 ^ w) (t : Nat) (tw : t < w) (tc : c.testBit t = false) (tb : bits.testBit t = true) :
    ((c ||| (2 * 2 ^ t - 1)) - (2 * 2 ^ t - 1)) ||| (bits &&& (2 * 2 ^ t - 1)) ≠ c ∧ ((c ||| (2 * 2 ^ t - 1)) - (2 * 2 ^ t - 1)) ||| (bits &&& (2 * 2 ^ t - 1)) < 2 ^ w := by
  have e : 2 * 2 ^ t - 1 = 2 ^ (t + 1) - 1 := by rw [Nat.pow_succ, Nat.mul_comm]
  have l : 2 ^ (t + 1) ≤ 2 ^ w := Nat.pow_le_pow_right (by decide) tw
  have p : 0 < 2 ^ (t + 1) := Nat.pos_of_ne_zero (by simp)
  rw [e]
  constructor
  · intro z
    have := congrArg (Nat.testBit · t) z
    simp only [Nat.testBit_or, Nat.testBit_and, Nat.testBit_two_pow_sub_one] at this
    rw [tc, tb] at this
    simp at this
  · refine Nat.or_lt_two_pow ?_ (Nat.lt_of_le_of_lt Nat.and_le_left hb)
    have := Nat.or_lt_two_pow hc (show 2 ^ (t + 1) - 1 < 2 ^ w by omega)
    omega
theorem nb_top {u : Nat} (h : u ≠ 0) : u.testBit u.log2 = true := by
  rw [Nat.testBit_eq_decide_div_mod_eq]
  have h1 := Nat.log2_self_le h
  have h2 : u < 2 ^ (u.log2 + 1) := Nat.lt_log2_self
  rw [Nat.pow_succ] at h2
  have h3 : u / 2 ^ u.log2 = 1 := by
    apply Nat.le_antisymm
    · exact Nat.le_of_lt_succ ((Nat.div_lt_iff_lt_mul (Nat.pos_of_ne_zero (by simp))).mpr (by omega))
    · exact (Nat.le_div_iff_mul_le (Nat.pos_of_ne_zero (by simp))).mpr (by omega)
  rw [h3]
  rfl
theorem nb_and1 (n i : Nat) : n &&& 2 ^ i = if n.testBit i = true then 2 ^ i else 0 := by
  apply Nat.eq_of_testBit_eq
  intro k
  rw [Nat.testBit_and, Nat.testBit_two_pow]
  by_cases g : i = k
  · subst g
    rw [decide_eq_true rfl]
    split
    · rename_i h; rw [h, Nat.testBit_two_pow, decide_eq_true rfl]; rfl
    · rename_i h; rw [Bool.eq_false_iff.mpr h, Nat.zero_testBit]; rfl
  · rw [decide_eq_false g, Bool.and_false]
    split
    · rw [Nat.testBit_two_pow, decide_eq_false g]
    · rw [Nat.zero_testBit]
theorem c_and (a b : Nat) : Builtin.bitAnd (a : Int) (b : Int) = ((a &&& b : Nat) : Int) := rfl
theorem c_or (a b : Nat) : Builtin.bitOr (a : Int) (b : Int) = ((a ||| b : Nat) : Int) := by
  rw [L2.bitOr_nn (Int.natCast_nonneg _) (Int.natCast_nonneg _), Int.toNat_natCast, Int.toNat_natCast]
theorem c_xor (a b : Nat) : Builtin.bitXor (a : Int) (b : Int) = ((a ^^^ b : Nat) : Int) := by
  have e : Builtin.bitXor (a : Int) (b : Int) = Builtin.bitOr (a : Int) (b : Int) - Builtin.bitAnd (a : Int) (b : Int) := rfl
  rw [e, c_or, c_and]
  have h1 := nb_xor a b
  have h2 : (a ||| b) = (a ^^^ b) + (a &&& b) := by
    rw [← nb_or]
    · apply Nat.eq_of_testBit_eq
      intro i
      simp only [Nat.testBit_or, Nat.testBit_xor, Nat.testBit_and]
      cases a.testBit i <;> cases b.testBit i <;> rfl
    · apply Nat.eq_of_testBit_eq
      intro i
      simp only [Nat.testBit_xor, Nat.testBit_and, Nat.zero_testBit]
      cases a.testBit i <;> cases b.testBit i <;> rfl
  omega
theorem c_pow (i : Nat) : (2 : Int) ^ i = ((2 ^ i : Nat) : Int) := by
  rw [Int.natCast_pow]; rfl
theorem c_bits {u : Nat} (h : u ≠ 0) : (((Builtin.Int.intBits (u : Int) : Nat) : Int) - 1).toNat = u.log2 := by
  unfold Builtin.Int.intBits
  rw [if_neg (by simpa using h)]
  show (((u.log2 + 1 : Nat) : Int) - 1).toNat = u.log2
  omega
theorem nz_mod {M : Nat} {x c : Nat} (hx : x < M) (hc : c < M) (h : x ≠ c) : ((x : Int) - (c : Int)) % (M : Int) ≠ 0 := by
  intro e
  have := Int.emod_eq_emod_iff_emod_sub_eq_zero.mpr e
  rw [Int.emod_eq_of_lt (by omega) (by omega), Int.emod_eq_of_lt (by omega) (by omega)] at this
  omega
theorem stb_zero {w mask bits c : Nat} (hk : mask < 2 ^ w) (hb : bits < 2 ^ w) (hc : c < 2 ^ w) : stb ((2 ^ w : Nat) : Int) mask bits c = 0 ↔ (c ^^^ bits) &&& mask = 0 := by
  unfold stb
  rw [c_xor, c_and]
  rcases Decidable.em ((c ^^^ bits) &&& mask = 0) with h | h
  · rw [if_pos (by rw [h]; rfl)]
    exact ⟨fun _ => h, fun _ => rfl⟩
  · rw [if_neg (by intro z; exact h (by exact_mod_cast z)), c_bits h, Int.one_mul, c_pow, c_and]
    refine ⟨fun z => ?_, fun z => absurd z h⟩
    exfalso
    have top := nb_top h
    generalize ((c ^^^ bits) &&& mask).log2 = t at top z
    rw [Nat.testBit_and, Nat.testBit_xor, Bool.and_eq_true] at top
    obtain ⟨t1, tm⟩ := top
    have tw : t < w := by
      rcases Nat.lt_or_ge t w with q | q
      · exact q
      · rw [nb_hi hk q] at tm; cases tm
    have p : 0 < 2 ^ t := Nat.pos_of_ne_zero (by simp)
    have e1 : (2 : Int) * ((2 ^ t : Nat) : Int) - 1 = ((2 * 2 ^ t - 1 : Nat) : Int) := by omega
    have e2 : (((2 ^ w : Nat) : Int) - 1 - (mask : Int)) = ((2 ^ w - 1 - mask : Nat) : Int) := by omega
    rw [e1, e2, c_or, c_or, c_or, c_and] at z
    rw [show ((((c ||| mask ||| (2 * 2 ^ t - 1) : Nat)) : Int) + 1) = ((((c ||| mask ||| (2 * 2 ^ t - 1)) + 1 : Nat)) : Int) by omega, c_and, c_or] at z
    have l := Nat.right_le_or (n := c) (m := 2 * 2 ^ t - 1)
    rw [show ((((c ||| (2 * 2 ^ t - 1) : Nat)) : Int) - ((2 * 2 ^ t - 1 : Nat) : Int)) = ((((c ||| (2 * 2 ^ t - 1)) - (2 * 2 ^ t - 1) : Nat)) : Int) by omega, c_or, nb_and1] at z
    cases tc : c.testBit t with
    | true =>
      have tb : bits.testBit t = false := by
        rw [tc] at t1; revert t1; cases bits.testBit t <;> simp
      rw [if_pos (by rw [tc]; simp; exact Int.ne_of_gt (Int.pow_pos (by decide)))] at z
      obtain ⟨s1, s2⟩ := nb_stepA (x := (c ||| mask ||| (2 * 2 ^ t - 1)) + 1) hk hb t tm tc tb
      exact nz_mod s2 hc s1 z
    | false =>
      have tb : bits.testBit t = true := by
        rw [tc] at t1; revert t1; cases bits.testBit t <;> simp
      rw [if_neg (by rw [tc]; simp)] at z
      obtain ⟨s1, s2⟩ := nb_stepB hc hb t tw tc tb
      exact nz_mod s2 hc s1 z
def prM (w F c j : Nat) : Int × Int := (stb ((2 ^ w : Nat) : Int) ((F % 2 ^ j ||| 2 ^ j : Nat) : Int) ((F % 2 ^ j : Nat) : Int) c, ((2 ^ j : Nat) : Int) - ((F % 2 ^ j : Nat) : Int))
theorem nb_next (F i : Nat) : F % 2 ^ (i + 1) = if F.testBit i = true then F % 2 ^ i ||| 2 ^ i else F % 2 ^ i := by
  apply Nat.eq_of_testBit_eq
  intro k
  split
  · rename_i h
    rw [Nat.testBit_or, Nat.testBit_mod_two_pow, Nat.testBit_mod_two_pow, Nat.testBit_two_pow]
    by_cases g : k < i
    · rw [decide_eq_true g, decide_eq_true (show k < i + 1 by omega), decide_eq_false (show ¬ i = k by omega)]; simp
    · rw [decide_eq_false g]
      by_cases z : i = k
      · subst z; rw [h]; simp
      · rw [decide_eq_false z, decide_eq_false (show ¬ k < i + 1 by omega)]; rfl
  · rename_i h
    rw [Nat.testBit_mod_two_pow, Nat.testBit_mod_two_pow]
    by_cases g : k < i
    · rw [decide_eq_true g, decide_eq_true (show k < i + 1 by omega)]
    · rw [decide_eq_false g]
      by_cases z : i = k
      · subst z; rw [Bool.eq_false_iff.mpr h]; simp
      · rw [decide_eq_false (show ¬ k < i + 1 by omega)]
theorem mg_mem {w F c : Nat} : ∀ (k i : Nat) (acc : List (Int × Int)), w ≤ i + k → i ≤ w →
    ∀ x, x ∈ mgLoop (F : Int) ((2 ^ w : Nat) : Int) c k ((F % 2 ^ i : Nat) : Int) ((2 ^ i : Nat) : Int) acc ↔ x ∈ acc ∨ ∃ j, i ≤ j ∧ j < w ∧ F.testBit j = true ∧ x = prM w F c j
  | 0, i, acc, h1, h2, x => by
    unfold mgLoop
    refine ⟨fun h => .inl h, fun h => ?_⟩
    rcases h with h | ⟨j, a, b, _⟩
    · exact h
    · omega
  | k + 1, i, acc, h1, h2, x => by
    unfold mgLoop
    have ep : (2 : Int) * ((2 ^ i : Nat) : Int) = ((2 ^ (i + 1) : Nat) : Int) := by rw [Nat.pow_succ]; omega
    have nx := nb_next F i
    rcases Nat.lt_or_ge i w with q | q
    · rw [if_pos (by exact_mod_cast Nat.pow_lt_pow_right (by decide) q), c_and, nb_and1, c_or, ep]
      cases tb : F.testBit i with
      | true =>
        rw [if_pos (by simp; exact Int.ne_of_gt (Int.pow_pos (by decide)))]
        rw [tb, if_pos rfl] at nx
        rw [show ((F % 2 ^ i ||| 2 ^ i : Nat) : Int) = ((F % 2 ^ (i + 1) : Nat) : Int) by rw [nx], mg_mem k (i + 1) _ (by omega) (by omega), List.mem_append, List.mem_singleton]
        have e0 : (stb ((2 ^ w : Nat) : Int) ((F % 2 ^ (i + 1) : Nat) : Int) ((F % 2 ^ i : Nat) : Int) c, ((2 ^ i : Nat) : Int) - ((F % 2 ^ i : Nat) : Int)) = prM w F c i := by unfold prM; rw [nx]
        rw [e0]
        constructor
        · rintro ((h | h) | ⟨j, a, b, d, e⟩)
          · exact .inl h
          · exact .inr ⟨i, by omega, q, tb, h⟩
          · exact .inr ⟨j, by omega, b, d, e⟩
        · rintro (h | ⟨j, a, b, d, e⟩)
          · exact .inl (.inl h)
          · rcases (by omega : j = i ∨ i + 1 ≤ j) with rfl | z
            · exact .inl (.inr e)
            · exact .inr ⟨j, z, b, d, e⟩
      | false =>
        rw [if_neg (by simp)]
        rw [tb, if_neg (by simp)] at nx
        rw [← nx, mg_mem k (i + 1) _ (by omega) (by omega)]
        constructor
        · rintro (h | ⟨j, a, b, d, e⟩)
          · exact .inl h
          · exact .inr ⟨j, by omega, b, d, e⟩
        · rintro (h | ⟨j, a, b, d, e⟩)
          · exact .inl h
          · rcases (by omega : j = i ∨ i + 1 ≤ j) with rfl | z
            · rw [tb] at d; cases d
            · exact .inr ⟨j, z, b, d, e⟩
    · rw [if_neg (by
        have := Nat.pow_le_pow_right (n := 2) (by decide) q
        omega)]
      refine ⟨fun h => .inl h, fun h => ?_⟩
      rcases h with h | ⟨j, a, b, _⟩
      · exact h
      · omega
theorem cov_low {w F m c j : Nat} (r : Fr w F m) (cw : c < 2 ^ w) (jw : j < w) (tf : F.testBit j = true) : (c ^^^ F % 2 ^ j) &&& (F % 2 ^ j ||| 2 ^ j) = 0 ↔ Cov F c j ∧ c.testBit j = false := by
  constructor
  · intro h
    have e : ∀ i, ((c ^^^ F % 2 ^ j) &&& (F % 2 ^ j ||| 2 ^ j)).testBit i = false := fun i => by rw [h, Nat.zero_testBit]
    simp only [Nat.testBit_and, Nat.testBit_xor, Nat.testBit_or, Nat.testBit_mod_two_pow, Nat.testBit_two_pow] at e
    constructor
    · intro i hi hf
      have := e i
      rw [decide_eq_true hi, hf] at this
      simpa using this
    · have := e j
      rw [decide_eq_true rfl, decide_eq_false (show ¬ j < j by omega)] at this
      simpa using this
  · rintro ⟨h1, h2⟩
    apply Nat.eq_of_testBit_eq
    intro i
    simp only [Nat.testBit_and, Nat.testBit_xor, Nat.testBit_or, Nat.testBit_mod_two_pow, Nat.testBit_two_pow, Nat.zero_testBit]
    by_cases g : i < j
    · rw [decide_eq_true g, decide_eq_false (show ¬ j = i by omega)]
      cases q : F.testBit i with
      | true => rw [h1 i g q]; rfl
      | false => simp
    · rw [decide_eq_false g]
      by_cases z : j = i
      · subst z; rw [h2]; rfl
      · rw [decide_eq_false z]; simp
theorem cov_all {w F m c : Nat} (r : Fr w F m) : (c ^^^ F) &&& F = 0 ↔ Cov F c w := by
  constructor
  · intro h i hi hf
    have : ((c ^^^ F) &&& F).testBit i = false := by rw [h, Nat.zero_testBit]
    simp only [Nat.testBit_and, Nat.testBit_xor] at this
    rw [hf] at this
    simpa using this
  · intro h
    apply Nat.eq_of_testBit_eq
    intro i
    simp only [Nat.testBit_and, Nat.testBit_xor, Nat.zero_testBit]
    cases q : F.testBit i with
    | true =>
      have : i < w := by
        rcases Nat.lt_or_ge i w with z | z
        · exact z
        · rw [nb_hi r.ff z] at q; cases q
      rw [h i this q]; rfl
    | false => simp
/-- the gaps of masks, at every width and size -/
theorem gap_mask {n c : Int} {w : Nat} (w2 : w ≤ 101) (n1 : 1 ≤ n) (c0 : 0 ≤ c) (cM : c < 2 ^ w) : GapsOk "mask" n (2 ^ w) c := by
  rw [c_pow] at cM ⊢
  obtain ⟨N, rfl⟩ : ∃ N : Nat, n = (N : Int) + 1 := ⟨(n - 1).toNat, by omega⟩
  obtain ⟨d, rfl⟩ : ∃ d : Nat, c = (d : Int) := ⟨c.toNat, by omega⟩
  have cw : d < 2 ^ w := by exact_mod_cast cM
  have pw : 0 < 2 ^ w := Nat.pos_of_ne_zero (by simp)
  have mw : N &&& (2 ^ w - 1) < 2 ^ w := by
    have := Nat.and_le_right (n := N) (m := 2 ^ w - 1)
    omega
  have r := Fr.of mw
  have ef : freeOf ((N : Int) + 1) ((2 ^ w : Nat) : Int) = ((2 ^ w - 1 - (N &&& (2 ^ w - 1)) : Nat) : Int) := by
    unfold freeOf
    rw [show (N : Int) + 1 - 1 = (N : Int) by omega, show ((2 ^ w : Nat) : Int) - 1 = ((2 ^ w - 1 : Nat) : Int) by omega, c_and]
    omega
  have sl : ∀ x : Nat, x < 2 ^ w → slotV "mask" ((N : Int) + 1) (x : Int) = .int ((x &&& (N &&& (2 ^ w - 1)) : Nat) : Int) := fun x hx => by
    rw [slotV_mask, show (N : Int) + 1 - 1 = (N : Int) by omega, c_and, Nat.and_comm N, ← Nat.and_assoc, Nat.and_two_pow_sub_one_eq_mod, Nat.mod_eq_of_lt hx]
  generalize N &&& (2 ^ w - 1) = m at r ef sl mw
  generalize hF : 2 ^ w - 1 - m = F at r ef
  have cm : ∀ h : Nat, ((d : Int) + (h : Int)) % ((2 ^ w : Nat) : Int) = (((d + h) % 2 ^ w : Nat) : Int) := fun h => by
    rw [show (d : Int) + (h : Int) = ((d + h : Nat) : Int) by omega]; rfl
  have ml : ∀ x, x % 2 ^ w < 2 ^ w := fun x => Nat.mod_lt _ pw
  have lessOk : ∀ j, j ≤ w → Cov F d j → ∀ h : Int, 1 ≤ h → h < ((2 ^ j : Nat) : Int) - ((F % 2 ^ j : Nat) : Int) → slotV "mask" ((N : Int) + 1) (((d : Int) + h) % ((2 ^ w : Nat) : Int)) ≠ slotV "mask" ((N : Int) + 1) (d : Int) := by
    intro j hj hc h h1 h2
    obtain ⟨k, rfl⟩ : ∃ k : Nat, h = (k : Int) := ⟨h.toNat, by omega⟩
    rw [cm, sl _ (ml _), sl _ cw]
    intro z
    exact r.lt hj hc (h := k) (by omega) (by omega) (by have := V.int.inj z; exact_mod_cast this)
  have isAt : ∀ j, j < w → F.testBit j = true → Cov F d j → d.testBit j = false → IsGap "mask" ((N : Int) + 1) ((2 ^ w : Nat) : Int) d (((2 ^ j : Nat) : Int) - ((F % 2 ^ j : Nat) : Int)) := by
    intro j hj hf hc hn
    obtain ⟨a1, a2⟩ := r.at cw hj hf hc hn
    have lj : F % 2 ^ j < 2 ^ j := Nat.mod_lt _ (Nat.pos_of_ne_zero (by simp))
    have lw : 2 ^ j < 2 ^ w := Nat.pow_lt_pow_right (by decide) hj
    refine ⟨by omega, by omega, ?_, lessOk j (by omega) hc⟩
    rw [show ((2 ^ j : Nat) : Int) - ((F % 2 ^ j : Nat) : Int) = ((2 ^ j - F % 2 ^ j : Nat) : Int) by omega, cm, sl _ (ml _), sl _ cw, Nat.mod_eq_of_lt a1, a2]
  have isAll : Cov F d w → IsGap "mask" ((N : Int) + 1) ((2 ^ w : Nat) : Int) d (((2 ^ w : Nat) : Int) - (F : Int)) := by
    intro hc
    have := r.ff
    have l := lessOk w (Nat.le_refl _) hc
    rw [Nat.mod_eq_of_lt r.ff] at l
    refine ⟨by omega, by omega, ?_, l⟩
    rw [show ((2 ^ w : Nat) : Int) - (F : Int) = ((2 ^ w - F : Nat) : Int) by omega, cm, sl _ (ml _), sl _ cw, r.all cw hc]
  have z1 : ∀ j, j < w → F % 2 ^ j ||| 2 ^ j < 2 ^ w ∧ F % 2 ^ j < 2 ^ w := fun j hj => by
    have lw : 2 ^ j < 2 ^ w := Nat.pow_lt_pow_right (by decide) hj
    have lj : F % 2 ^ j < 2 ^ j := Nat.mod_lt _ (Nat.pos_of_ne_zero (by simp))
    exact ⟨Nat.or_lt_two_pow (by omega) lw, by omega⟩
  have mem := mg_mem (w := w) (F := F) (c := d) 101 0 [] (by omega) (by omega)
  simp only [Nat.pow_zero, Nat.mod_one] at mem
  unfold GapsOk
  rw [gapsM_mask]
  unfold maskGaps
  rw [ef]
  constructor
  · intro x hx x0
    rcases List.mem_append.mp hx with h | h
    · rcases (mem x).mp h with h | ⟨j, _, jw, hf, rfl⟩
      · cases h
      · have := (stb_zero (z1 j jw).1 (z1 j jw).2 cw).mp x0
        rw [cov_low r cw jw hf] at this
        exact isAt j jw hf this.1 this.2
    · rw [List.mem_singleton] at h
      subst h
      have := (stb_zero r.ff r.ff cw).mp x0
      rw [cov_all r] at this
      exact isAll this
  · rcases r.cov d w (Nat.le_refl _) with ⟨j, jw, hf, h1, h2⟩ | h
    · exact ⟨_, List.mem_append.mpr (.inl ((mem _).mpr (.inr ⟨j, Nat.zero_le _, jw, hf, rfl⟩))), (stb_zero (z1 j jw).1 (z1 j jw).2 cw).mpr ((cov_low r cw jw hf).mpr ⟨h1, h2⟩)⟩
    · exact ⟨_, List.mem_append.mpr (.inr (List.mem_singleton.mpr rfl)), (stb_zero r.ff r.ff cw).mpr ((cov_all r).mpr h)⟩

theorem and_nn {a b : Int} (ha : 0 ≤ a) (hb : 0 ≤ b) : 0 ≤ Builtin.bitAnd a b ∧ Builtin.bitAnd a b ≤ b := by
  obtain ⟨m, rfl⟩ := Int.eq_ofNat_of_zero_le ha
  obtain ⟨n, rfl⟩ := Int.eq_ofNat_of_zero_le hb
  have e : Builtin.bitAnd (m : Int) (n : Int) = ((m &&& n : Nat) : Int) := rfl
  rw [e]
  exact ⟨by omega, by exact_mod_cast Nat.and_le_right⟩
theorem xor_nn {a b : Int} (ha : 0 ≤ a) (hb : 0 ≤ b) : 0 ≤ Builtin.bitXor a b := Bits.bitXor_nonneg ha hb
theorem or_nn {a b : Int} (ha : 0 ≤ a) (hb : 0 ≤ b) : 0 ≤ Builtin.bitOr a b := Bits.bitOr_nonneg ha hb
theorem intBits_ok {u : Int} (h : 0 < u) (g : u < 2 ^ 101) : 1 ≤ Builtin.Int.intBits u ∧ Builtin.Int.intBits u ≤ 101 := by
  unfold Builtin.Int.intBits
  have h0 : (u == 0) = false := by rw [beq_eq_false_iff_ne]; omega
  rw [h0]
  have : u.natAbs.log2 < 101 := (Nat.log2_lt (by omega)).mpr (by omega)
  simp only [Bool.false_eq_true, if_false]
  omega
theorem free_ok {n M : Int} (n1 : 1 ≤ n) (m1 : 1 ≤ M) (h : M ≤ 2 ^ 100) : 0 ≤ freeOf n M ∧ freeOf n M < 2 ^ 101 := by
  have := and_nn (a := n - 1) (b := M - 1) (by omega) (by omega)
  unfold freeOf
  omega
theorem pow2s (i : Nat) : (2 : Int) ^ (i + 1) = 2 * 2 ^ i := by rw [Int.pow_succ, Int.mul_comm]
theorem pow_mono {i j : Nat} (h : i ≤ j) : (2 : Int) ^ i ≤ 2 ^ j := by
  have : (2 : Nat) ^ i ≤ 2 ^ j := Nat.pow_le_pow_right (by decide) h
  exact_mod_cast this
theorem mg_in {free M c l b : Int} {acc : List (Int × Int)} {i : Nat} (hi : i ≤ 100) (h : b < M) (g : Builtin.bitAnd free b ≠ 0) :
    mgLoop free M c (101 - i) l b acc = mgLoop free M c (101 - (i + 1)) (Builtin.bitOr l b) (2 * b) (acc ++ [(stb M (Builtin.bitOr l b) l c, b - l)]) := by
  rw [show 101 - i = (101 - (i + 1)) + 1 by omega]
  conv => lhs; unfold mgLoop
  rw [if_pos h, if_pos g]
theorem mg_out {free M c l b : Int} {acc : List (Int × Int)} {i : Nat} (hi : i ≤ 100) (h : b < M) (g : Builtin.bitAnd free b = 0) :
    mgLoop free M c (101 - i) l b acc = mgLoop free M c (101 - (i + 1)) l (2 * b) acc := by
  rw [show 101 - i = (101 - (i + 1)) + 1 by omega]
  conv => lhs; unfold mgLoop
  rw [if_pos h, if_neg (fun z => z g)]
theorem mg_end {free M c l b : Int} {acc : List (Int × Int)} {i : Nat} (hi : i ≤ 100) (h : ¬ b < M) : mgLoop free M c (101 - i) l b acc = acc := by
  rw [show 101 - i = (101 - (i + 1)) + 1 by omega]
  unfold mgLoop
  rw [if_neg h]
local macro_rules | `(tactic| walk_at "bT") => `(tactic| first | exact bne_iff_ne.mpr (by with_reducible assumption) | fail "bT")
local macro_rules | `(tactic| walk_at "bF") => `(tactic| first | exact bne_eq_false_iff_eq.mpr (by with_reducible assumption) | fail "bF")
theorem or_lt {a b : Int} {k : Nat} (ha : 0 ≤ a) (hb : 0 ≤ b) (h1 : a < 2 ^ k) (h2 : b < 2 ^ k) : Builtin.bitOr a b < 2 ^ k := by
  rw [L2.bitOr_nn ha hb]
  obtain ⟨m, rfl⟩ := Int.eq_ofNat_of_zero_le ha
  obtain ⟨n, rfl⟩ := Int.eq_ofNat_of_zero_le hb
  have a1 : m < 2 ^ k := by exact_mod_cast h1
  have a2 : n < 2 ^ k := by exact_mod_cast h2
  exact_mod_cast Nat.or_lt_two_pow a1 a2

theorem IsScheme.keepN {A : Adr} {H H' : Hp} {p : Addr} {t : Pt} (S : ∀ b o, H b = some o → (∀ xs, o ≠ .lst xs) → H' b = some o) : IsScheme A H p t → IsScheme A H' p t := by
  rintro ⟨dx, d, vw, vf, h1, h2, h3, h4⟩
  refine ⟨dx, d, vw, vf, S _ _ h1 (fun _ z => by cases z), S _ _ h2 (fun _ z => by cases z), ?_, ?_⟩
  · revert h3
    cases t.wrap with
    | width w => exact fun z => z
    | form s b => rintro ⟨q, dq, e, h⟩; exact ⟨q, dq, e, S _ _ h (fun _ z => by cases z)⟩
  · revert h4
    cases t.full with
    | plain k => rintro ⟨q, e, h⟩; exact ⟨q, e, S _ _ h (fun _ z => by cases z)⟩
    | lim k g s b => rintro ⟨q, r, dr, e, h, h'⟩; exact ⟨q, r, dr, e, S _ _ h (fun _ z => by cases z), S _ _ h' (fun _ z => by cases z)⟩
theorem modV_le {t : Wr} {n : Int} (h : WfW t) (n1 : 1 ≤ n) (n2 : n ≤ 1000000000000000000000000000000) : modV t n ≤ 10000000000000000000000000000000 := by
  cases t with
  | width w =>
    have h : 1 ≤ w ∧ w ≤ 100 := h
    show 1 * 2 ^ w.toNat ≤ 10000000000000000000000000000000
    have e := pow_le (i := w.toNat) (by omega)
    omega
  | form s b =>
    have h : 0 ≤ s ∧ s ≤ 4 ∧ -20 ≤ b ∧ b ≤ 20 := h
    show s * n + b ≤ 10000000000000000000000000000000
    have : s * n ≤ 4 * 1000000000000000000000000000000 := Int.mul_le_mul h.2.1 n2 (by omega) (by omega)
    omega
theorem mask_pow {t : Pt} {n : Int} (h : Wf t) (hs : t.slot = "mask") : ∃ w : Nat, w ≤ 100 ∧ modV t.wrap n = 2 ^ w := by
  have hm := h.m
  have hw := h.w
  cases e : t.wrap with
  | width w =>
    rw [e] at hw
    have hw : 1 ≤ w ∧ w ≤ 100 := hw
    exact ⟨w.toNat, by omega, by show 1 * 2 ^ w.toNat = _; rw [Int.one_mul]⟩
  | form s b => exact absurd hs (hm s b e)
theorem len_ok {t : Pt} {n c : Int} (h : Wf t) : (gapsM t.slot n (modV t.wrap n) c).length ≤ 900 := by
  have hl : ∀ ts : List (Int × Int × Int), ts.length ≤ 3 → (gapsOf ts (modV t.wrap n) c).length ≤ 900 := fun ts z => by unfold gapsOf; rw [List.length_map]; omega
  rcases slot3 h.s with e | e | e <;> rw [e]
  · rw [gapsM_rest]; exact hl _ (rest_len _ _)
  · rw [gapsM_mask]; have := mask_len n (modV t.wrap n) c; omega
  · rw [gapsM_off]; exact hl _ (off_len _ _)
theorem gaps_ok {t : Pt} {n c : Int} (h : Wf t) (n1 : 1 ≤ n) (c1 : 0 ≤ c) (c2 : c < modV t.wrap n) (e : slotV t.slot n c ≠ .non) : GapsOk t.slot n (modV t.wrap n) c := by
  rcases slot3 h.s with z | z | z
  · rw [z]; exact gap_rest n1 c1 c2
  · obtain ⟨w, w1, em⟩ := mask_pow (n := n) h z
    rw [em] at c2 ⊢
    rw [z]
    exact gap_mask (by omega) n1 c1 c2
  · rw [z] at e ⊢; exact gap_off n1 c1 c2 e
theorem modG (x : Int) {n : Int} (h : 1 ≤ n) : 0 ≤ x % n ∧ x % n < n := ⟨Int.emod_nonneg _ (by omega), Int.emod_lt_of_pos _ (by omega)⟩
local macro_rules | `(tactic| walk_at "sz") => `(tactic| first | ((with_reducible apply L2.small1000); (simp only [List.length_append, List.length_cons, List.length_nil]; omega)) | fail "sz")
theorem min30 {n : Int} (h : n ≤ 1000000000000000000000000000000) : (if (10 : Int) ^ 30 < n then (10 : Int) ^ 30 else n) = n := by
  have e : (10 : Int) ^ 30 = 1000000000000000000000000000000 := by decide +kernel
  rw [e]
  exact if_neg (by omega)
theorem chainB {a b c : Int} (h : (decide (a < b) && decide (b < c)) = true) : a < b ∧ b < c := by simpa using h

section
variable {P : Program} {w : World} {K : PySem.W.Frag} {mg : Str → Option Value} {base : Heap} {A : Adr}
/-! is_whole -/
theorem sc_is_whole : FnScope ["thing"] ["thing"] (defScope s_is_whole) := ⟨rfl, rfl, rfl, by decide +kernel, rfl, by decide +kernel, by decide +kernel⟩
abbrev sp_is_whole (K : PySem.W.Frag) (A : Adr) : Sp := fun vs H Q _ => ∃ i : Int, vs = [.int i] ∧ Q (.bl true) H
theorem ok_is_whole (T : Txt w K mg A) : FnOk P w K mg base CX0 1 A.f_is_whole A.d_is_whole ["thing"] (sp_is_whole K A) := by
  refine T.F_is_whole.ok sc_is_whole (fun vs H Q E h => ?_) (fun cdv Ar outer s H vs Q E hr h => ?_)
  · obtain ⟨i, rfl, k⟩ := h
    rfl
  · obtain ⟨i, rfl, k⟩ := h
    have hu := hu_of hr
    have t_q_PART_NAMES := T.q_PART_NAMES
    have t_q_PART_WORDS_slot := T.q_PART_WORDS_slot
    have t_d_PART_WORDS_slot := T.d_PART_WORDS_slot
    have t_q_PART_WORDS_empty := T.q_PART_WORDS_empty
    have t_d_PART_WORDS_empty := T.d_PART_WORDS_empty
    have t_q_PART_WORDS_when := T.q_PART_WORDS_when
    have t_d_PART_WORDS_when := T.d_PART_WORDS_when
    have t_q_MEASURES := T.q_MEASURES
    have t_q_SIGNS := T.q_SIGNS
    have t_q_PLAIN_FULLS := T.q_PLAIN_FULLS
    have t_i_Form := T.i_Form
    have t_kt_Form_Form := T.kt_Form_Form
    have t_kt_int_Form := T.kt_int_Form
    have t_nf_Form_Form := T.nf_Form_Form
    have t_nf_int_Form := T.nf_int_Form
    have t_k_Form := T.k_Form
    have t_k_Scheme := T.k_Scheme
    refine ⟨_, (pss_one (ps_ret (pe_and (pe_callB (Rd.isi (K := K) rfl) (by rfl) T.n_isinstance (by decide +kernel) (pa_cons (pv 0) (pa_cons (pe_bltn (v := .ty "int") (u := .type "int") (by rfl) T.n_int (by decide +kernel) rfl) pa_nil))) (pe_one (pe_not (pe_callB (Rd.isi (K := K) rfl) (by rfl) T.n_isinstance (by decide +kernel) (pa_cons (pv 0) (pa_cons (pe_bltn (v := .ty "bool") (u := .type "bool") (by rfl) T.n_bool (by decide +kernel) rfl) pa_nil)))))))), ?_⟩
    try dsimp only [L2.cxOf, L2.Cx.nox, L2.Cx.wish]
    with_reducible refine Rd.ret (Rd.andV (Rd.cB (Rd.cons (Rd.var (by walk_at "vr") (Rd.cons (Rd.c (Rd.nil ?_)))))))
    refine ⟨_, _, _, _, _, rfl, (by walk_at "clsv"), (by walk_at "tyx"), (by walk_at "kit"), ?_⟩
    with_reducible refine Rd.bl (Rd.iteT (by first | with_unfolding_all rfl | walk_at "bT") (Rd.notV (Rd.cB (Rd.cons (Rd.var (by walk_at "vr") (Rd.cons (Rd.c (Rd.nil ?_))))))))
    refine ⟨_, _, _, _, _, rfl, (by walk_at "clsv"), (by walk_at "tyx"), (by walk_at "kit"), ?_⟩
    with_reducible refine Rd.bl ?_
    exact k
/-! is_whole_from -/
theorem sc_is_whole_from : FnScope ["thing", "low", "high"] ["thing", "low", "high"] (defScope s_is_whole_from) := ⟨rfl, rfl, rfl, by decide +kernel, rfl, by decide +kernel, by decide +kernel⟩
abbrev sp_is_whole_from (K : PySem.W.Frag) (A : Adr) : Sp := fun vs H Q _ => ∃ i lo hi : Int, vs = [.int i, .int lo, .int hi] ∧ lo ≤ i ∧ i ≤ hi ∧ Q (.bl true) H
theorem ok_is_whole_from (T : Txt w K mg A) : FnOk P w K mg base CX0 2 A.f_is_whole_from A.d_is_whole_from ["thing", "low", "high"] (sp_is_whole_from K A) := by
  refine T.F_is_whole_from.ok sc_is_whole_from (fun vs H Q E h => ?_) (fun cdv Ar outer s H vs Q E hr h => ?_)
  · obtain ⟨i, lo, hi, rfl, hlo, hhi, k⟩ := h
    rfl
  · obtain ⟨i, lo, hi, rfl, hlo, hhi, k⟩ := h
    have hu := hu_of hr
    have t_q_PART_NAMES := T.q_PART_NAMES
    have t_q_PART_WORDS_slot := T.q_PART_WORDS_slot
    have t_d_PART_WORDS_slot := T.d_PART_WORDS_slot
    have t_q_PART_WORDS_empty := T.q_PART_WORDS_empty
    have t_d_PART_WORDS_empty := T.d_PART_WORDS_empty
    have t_q_PART_WORDS_when := T.q_PART_WORDS_when
    have t_d_PART_WORDS_when := T.d_PART_WORDS_when
    have t_q_MEASURES := T.q_MEASURES
    have t_q_SIGNS := T.q_SIGNS
    have t_q_PLAIN_FULLS := T.q_PLAIN_FULLS
    have t_i_Form := T.i_Form
    have t_kt_Form_Form := T.kt_Form_Form
    have t_kt_int_Form := T.kt_int_Form
    have t_nf_Form_Form := T.nf_Form_Form
    have t_nf_int_Form := T.nf_int_Form
    have t_k_Form := T.k_Form
    have t_k_Scheme := T.k_Scheme
    refine ⟨_, (pss_one (ps_ret (pe_and (pe_call (ok_is_whole T) (hr.mono (by decide)) (by rfl) T.m_is_whole T.F_is_whole.kp T.b_is_whole .nil pass0 (pa_cons (pv 0) pa_nil)) (pe_one (pe_chain op_le op_le (pv 1) (pv 0) (pv 2)))))), ?_⟩
    try dsimp only [L2.cxOf, L2.Cx.nox, L2.Cx.wish]
    with_reducible refine Rd.ret (Rd.andV (Rd.call (Rd.cons (Rd.var (by walk_at "vr") (Rd.nil ?_)))))
    refine ⟨_, rfl, ?_⟩
    with_reducible refine Rd.bl (Rd.iteT (by walk_at "bT") (Rd.chain (Rd.var (by walk_at "vr") (Rd.var (by walk_at "vr") (Rd.i0 (Rd.bl (Rd.iteT (by walk_at "bT") (Rd.var (by walk_at "vr") (Rd.i0 ?_)))))))))
    rw [decide_eq_true hhi]
    exact k
/-! is_word_of -/
theorem sc_is_word_of : FnScope ["thing", "words"] ["thing", "words"] (defScope s_is_word_of) := ⟨rfl, rfl, rfl, by decide +kernel, rfl, by decide +kernel, by decide +kernel⟩
def sp_is_word_of (P : Program) (w : World) (mg : Str → Option Value) (base : Heap) (K : PySem.W.Frag) (A : Adr) : Sp := fun vs H Q E => vs.length = 2 ∧ ∀ (cdv : Value) (Ar : Around) (outer : List Env) (s : Shared), Room 0 (Ar.deeper (PyProof.Rows.envOfC "is_word_of" (defScope s_is_word_of) s.heap.objs.size A.f_is_word_of cdv)) → ∃ t, PSs (cxOf CX0 P w K mg base ["thing", "words"] "is_word_of" (defScope s_is_word_of) A.f_is_word_of cdv Ar outer s H E).nox (defBody s_is_word_of) t ∧ t { nx := fun _ H' => Q .non H', rt := Q } (start ["thing", "words"] vs) H
theorem in_is_word_of {vs : List V} {H : Hp} {Q : VK} {E : XK} (h : ∀ (cdv : Value) (Ar : Around) (outer : List Env) (s : Shared), Room 0 (Ar.deeper (PyProof.Rows.envOfC "is_word_of" (defScope s_is_word_of) s.heap.objs.size A.f_is_word_of cdv)) → ∃ t, PSs (cxOf CX0 P w K mg base ["thing", "words"] "is_word_of" (defScope s_is_word_of) A.f_is_word_of cdv Ar outer s H E).nox (defBody s_is_word_of) t ∧ t { nx := fun _ H' => Q .non H', rt := Q } (start ["thing", "words"] vs) H) (e : vs.length = 2) : sp_is_word_of P w mg base K A vs H Q E := ⟨e, h⟩
theorem ok_is_word_of (T : Txt w K mg A) : FnOk P w K mg base CX0 1 A.f_is_word_of A.d_is_word_of ["thing", "words"] (sp_is_word_of P w mg base K A) := T.F_is_word_of.ok sc_is_word_of (fun _ _ _ _ h => h.1) (fun cdv Ar outer s H vs Q E hr h => h.2 cdv Ar outer s hr)
/-! is_size -/
theorem sc_is_size : FnScope ["thing"] ["thing"] (defScope s_is_size) := ⟨rfl, rfl, rfl, by decide +kernel, rfl, by decide +kernel, by decide +kernel⟩
abbrev sp_is_size (K : PySem.W.Frag) (A : Adr) : Sp := fun vs H Q _ => ∃ i : Int, vs = [.int i] ∧ 1 ≤ i ∧ i ≤ 1000000000000000000000000000000 ∧ Q (.bl true) H
theorem ok_is_size (T : Txt w K mg A) : FnOk P w K mg base CX0 3 A.f_is_size A.d_is_size ["thing"] (sp_is_size K A) := by
  refine T.F_is_size.ok sc_is_size (fun vs H Q E h => ?_) (fun cdv Ar outer s H vs Q E hr h => ?_)
  · obtain ⟨i, rfl, hlo, hhi, k⟩ := h
    rfl
  · obtain ⟨i, rfl, hlo, hhi, k⟩ := h
    have hu := hu_of hr
    have t_q_PART_NAMES := T.q_PART_NAMES
    have t_q_PART_WORDS_slot := T.q_PART_WORDS_slot
    have t_d_PART_WORDS_slot := T.d_PART_WORDS_slot
    have t_q_PART_WORDS_empty := T.q_PART_WORDS_empty
    have t_d_PART_WORDS_empty := T.d_PART_WORDS_empty
    have t_q_PART_WORDS_when := T.q_PART_WORDS_when
    have t_d_PART_WORDS_when := T.d_PART_WORDS_when
    have t_q_MEASURES := T.q_MEASURES
    have t_q_SIGNS := T.q_SIGNS
    have t_q_PLAIN_FULLS := T.q_PLAIN_FULLS
    have t_i_Form := T.i_Form
    have t_kt_Form_Form := T.kt_Form_Form
    have t_kt_int_Form := T.kt_int_Form
    have t_nf_Form_Form := T.nf_Form_Form
    have t_nf_int_Form := T.nf_int_Form
    have t_k_Form := T.k_Form
    have t_k_Scheme := T.k_Scheme
    refine ⟨_, (pss_one (ps_ret (pe_call (ok_is_whole_from T) (hr.mono (by decide)) (by rfl) T.m_is_whole_from T.F_is_whole_from.kp T.b_is_whole_from .nil pass0 (pa_cons (pv 0) (pa_cons pe_int (pa_cons (pe_glob (v := .int (1000000000000000000000000000000)) rfl T.m_GREATEST_SIZE ⟨_, rfl⟩) pa_nil)))))), ?_⟩
    try dsimp only [L2.cxOf, L2.Cx.nox, L2.Cx.wish]
    with_reducible refine Rd.ret (Rd.call (Rd.cons (Rd.var (by walk_at "vr") (Rd.cons (Rd.c (Rd.cons (Rd.c (Rd.nil ?_))))))))
    refine ⟨_, _, _, rfl, (by walk_at "sc"), (by walk_at "sc"), ?_⟩
    exact k
/-! check_size -/
theorem sc_check_size : FnScope ["n"] ["n"] (defScope s_check_size) := ⟨rfl, rfl, rfl, by decide +kernel, rfl, by decide +kernel, by decide +kernel⟩
abbrev sp_check_size (K : PySem.W.Frag) (A : Adr) : Sp := fun vs H Q _ => ∃ i : Int, vs = [.int i] ∧ 1 ≤ i ∧ i ≤ 1000000000000000000000000000000 ∧ Q .non H
theorem ok_check_size (T : Txt w K mg A) : FnOk P w K mg base CX0 4 A.f_check_size A.d_check_size ["n"] (sp_check_size K A) := by
  refine T.F_check_size.ok sc_check_size (fun vs H Q E h => ?_) (fun cdv Ar outer s H vs Q E hr h => ?_)
  · obtain ⟨i, rfl, hlo, hhi, k⟩ := h
    rfl
  · obtain ⟨i, rfl, hlo, hhi, k⟩ := h
    have hu := hu_of hr
    have t_q_PART_NAMES := T.q_PART_NAMES
    have t_q_PART_WORDS_slot := T.q_PART_WORDS_slot
    have t_d_PART_WORDS_slot := T.d_PART_WORDS_slot
    have t_q_PART_WORDS_empty := T.q_PART_WORDS_empty
    have t_d_PART_WORDS_empty := T.d_PART_WORDS_empty
    have t_q_PART_WORDS_when := T.q_PART_WORDS_when
    have t_d_PART_WORDS_when := T.d_PART_WORDS_when
    have t_q_MEASURES := T.q_MEASURES
    have t_q_SIGNS := T.q_SIGNS
    have t_q_PLAIN_FULLS := T.q_PLAIN_FULLS
    have t_i_Form := T.i_Form
    have t_kt_Form_Form := T.kt_Form_Form
    have t_kt_int_Form := T.kt_int_Form
    have t_nf_Form_Form := T.nf_Form_Form
    have t_nf_int_Form := T.nf_int_Form
    have t_k_Form := T.k_Form
    have t_k_Scheme := T.k_Scheme
    refine ⟨_, (pss_one (ps_if (pt_not (pt_val (pe_call (ok_is_size T) (hr.mono (by decide)) (by rfl) T.m_is_size T.F_is_size.kp T.b_is_size .nil pass0 (pa_cons (pv 0) pa_nil)))) (pss_one ps_never) pss_nil)), ?_⟩
    try dsimp only [L2.cxOf, L2.Cx.nox, L2.Cx.wish]
    with_reducible refine Rd.ifS (Rd.not (Rd.tb (Rd.call (Rd.cons (Rd.var (by walk_at "vr") (Rd.nil ?_))))))
    refine ⟨_, rfl, (by walk_at "sc"), (by walk_at "sc"), ?_⟩
    with_reducible refine Rd.bl (Rd.iteF (by walk_at "bF") (Rd.next ?_))
    exact k
/-! Form.__init__ -/
theorem sc_Formu__initu_ : FnScope ["self", "slope", "base"] ["self", "slope", "base"] (defScope s_Formu__initu_) := ⟨rfl, rfl, rfl, by decide +kernel, rfl, by decide +kernel, by decide +kernel⟩
abbrev sp_Formu__initu_ (K : PySem.W.Frag) (A : Adr) : Sp := fun vs H Q _ => ∃ (p dx : Addr) (s b : Int), vs = [.ref p, .int s, .int b] ∧ H p = some (.ins A.c_Form dx []) ∧ Q .non (upd H p (.ins A.c_Form dx (fF s b)))
theorem ok_Formu__initu_ (T : Txt w K mg A) : FnOk P w K mg base CX0 2 A.f_Formu__initu_ A.d_Formu__initu_ ["self", "slope", "base"] (sp_Formu__initu_ K A) := by
  refine T.F_Formu__initu_.ok sc_Formu__initu_ (fun vs H Q E h => ?_) (fun cdv Ar outer s H vs Q E hr h => ?_)
  · obtain ⟨p, dx, s, b, rfl, hp, k⟩ := h
    rfl
  · obtain ⟨p, dx, s, b, rfl, hp, k⟩ := h
    have hu := hu_of hr
    have t_q_PART_NAMES := T.q_PART_NAMES
    have t_q_PART_WORDS_slot := T.q_PART_WORDS_slot
    have t_d_PART_WORDS_slot := T.d_PART_WORDS_slot
    have t_q_PART_WORDS_empty := T.q_PART_WORDS_empty
    have t_d_PART_WORDS_empty := T.d_PART_WORDS_empty
    have t_q_PART_WORDS_when := T.q_PART_WORDS_when
    have t_d_PART_WORDS_when := T.d_PART_WORDS_when
    have t_q_MEASURES := T.q_MEASURES
    have t_q_SIGNS := T.q_SIGNS
    have t_q_PLAIN_FULLS := T.q_PLAIN_FULLS
    have t_i_Form := T.i_Form
    have t_kt_Form_Form := T.kt_Form_Form
    have t_kt_int_Form := T.kt_int_Form
    have t_nf_Form_Form := T.nf_Form_Form
    have t_nf_int_Form := T.nf_int_Form
    have t_k_Form := T.k_Form
    have t_k_Scheme := T.k_Scheme
    refine ⟨_, (pss_cons (ps_if (PW.pt (pw_or (pt_not (pt_val (pe_call (ok_is_whole T) (hr.mono (by decide)) (by rfl) T.m_is_whole T.F_is_whole.kp T.b_is_whole .nil pass0 (pa_cons (pv 1) pa_nil)))) (pw_or1 (pt_not (pt_val (pe_call (ok_is_whole T) (hr.mono (by decide)) (by rfl) T.m_is_whole T.F_is_whole.kp T.b_is_whole .nil pass0 (pa_cons (pv 2) pa_nil))))))) (pss_one ps_never) pss_nil)
      (pss_cons (ps_fld (pv 0) (pv 1) rfl)
      (pss_one (ps_fld (pv 0) (pv 2) rfl)))), ?_⟩
    try dsimp only [L2.cxOf, L2.Cx.nox, L2.Cx.wish]
    with_reducible refine Rd.seq (Rd.ifS (Rd.or (Rd.not (Rd.tb (Rd.call (Rd.cons (Rd.var (by walk_at "vr") (Rd.nil ?_))))))))
    refine ⟨_, rfl, ?_⟩
    with_reducible refine Rd.bl (Rd.iteF (by walk_at "bF") (Rd.not (Rd.tb (Rd.call (Rd.cons (Rd.var (by walk_at "vr") (Rd.nil ?_)))))))
    refine ⟨_, rfl, ?_⟩
    with_reducible refine Rd.bl (Rd.iteF (by walk_at "bF") (Rd.next (Rd.seq (Rd.sfld (Rd.var (by walk_at "vr") (Rd.var (by walk_at "vr") (⟨_, _, _, _, rfl, (by walk_at "hp"), T.k_Form, T.n_Form_slope, (by walk_at "sfl"), (Rd.sfld (Rd.var (by walk_at "vr") (Rd.var (by walk_at "vr") (⟨_, _, _, _, rfl, (by walk_at "hp"), T.k_Form, T.n_Form_base, (by walk_at "sfl"), ?_⟩))))⟩)))))))
    rw [L2.upd_upd, fF_put]
    exact k
/-! form_at -/
theorem sc_form_at : FnScope ["form", "n"] ["form", "n"] (defScope s_form_at) := ⟨rfl, rfl, rfl, by decide +kernel, rfl, by decide +kernel, by decide +kernel⟩
abbrev sp_form_at (K : PySem.W.Frag) (A : Adr) : Sp := fun vs H Q _ => ∃ (p dx : Addr) (s b n : Int), vs = [.ref p, .int n] ∧ H p = some (.ins A.c_Form dx (fF s b)) ∧ (-(2 ^ 190) < s ∧ s < 2 ^ 190) ∧ (-(2 ^ 190) < n ∧ n < 2 ^ 190) ∧ Q (.int (s * n + b)) H
theorem ok_form_at (T : Txt w K mg A) : FnOk P w K mg base CX0 1 A.f_form_at A.d_form_at ["form", "n"] (sp_form_at K A) := by
  refine T.F_form_at.ok sc_form_at (fun vs H Q E h => ?_) (fun cdv Ar outer s H vs Q E hr h => ?_)
  · obtain ⟨p, dx, s, b, n, rfl, hp, hs, hn, k⟩ := h
    rfl
  · obtain ⟨p, dx, s, b, n, rfl, hp, hs, hn, k⟩ := h
    have hu := hu_of hr
    have t_q_PART_NAMES := T.q_PART_NAMES
    have t_q_PART_WORDS_slot := T.q_PART_WORDS_slot
    have t_d_PART_WORDS_slot := T.d_PART_WORDS_slot
    have t_q_PART_WORDS_empty := T.q_PART_WORDS_empty
    have t_d_PART_WORDS_empty := T.d_PART_WORDS_empty
    have t_q_PART_WORDS_when := T.q_PART_WORDS_when
    have t_d_PART_WORDS_when := T.d_PART_WORDS_when
    have t_q_MEASURES := T.q_MEASURES
    have t_q_SIGNS := T.q_SIGNS
    have t_q_PLAIN_FULLS := T.q_PLAIN_FULLS
    have t_i_Form := T.i_Form
    have t_kt_Form_Form := T.kt_Form_Form
    have t_kt_int_Form := T.kt_int_Form
    have t_nf_Form_Form := T.nf_Form_Form
    have t_nf_int_Form := T.nf_int_Form
    have t_k_Form := T.k_Form
    have t_k_Scheme := T.k_Scheme
    refine ⟨_, (pss_one (ps_ret (pe_op op_add (pe_op op_mulW (pe_fld (pv 0) rfl) (pv 1)) (pe_fld (pv 0) rfl)))), ?_⟩
    try dsimp only [L2.cxOf, L2.Cx.nox, L2.Cx.wish]
    with_reducible refine Rd.ret (Rd.op (Rd.op (Rd.fld (Rd.var (by walk_at "vr") (⟨_, _, _, _, _, rfl, (by walk_at "hp"), T.k_Form, T.n_Form_slope, (by walk_at "lk"), (Rd.var (by walk_at "vr") (Rd.iC (by walk_at "scm") (Rd.fld (Rd.var (by walk_at "vr") (⟨_, _, _, _, _, rfl, (by walk_at "hp"), T.k_Form, T.n_Form_base, (by walk_at "lk"), (Rd.i0 ?_)⟩)))))⟩)))))
    exact k
/-! mask_of -/
theorem sc_mask_of : FnScope ["n", "modulus"] ["n", "modulus"] (defScope s_mask_of) := ⟨rfl, rfl, rfl, by decide +kernel, rfl, by decide +kernel, by decide +kernel⟩
def sp_mask_of (P : Program) (w : World) (mg : Str → Option Value) (base : Heap) (K : PySem.W.Frag) (A : Adr) : Sp := fun vs H Q E => vs.length = 2 ∧ ∀ (cdv : Value) (Ar : Around) (outer : List Env) (s : Shared), Room 0 (Ar.deeper (PyProof.Rows.envOfC "mask_of" (defScope s_mask_of) s.heap.objs.size A.f_mask_of cdv)) → ∃ t, PSs (cxOf CX0 P w K mg base ["n", "modulus"] "mask_of" (defScope s_mask_of) A.f_mask_of cdv Ar outer s H E).nox (defBody s_mask_of) t ∧ t { nx := fun _ H' => Q .non H', rt := Q } (start ["n", "modulus"] vs) H
theorem in_mask_of {vs : List V} {H : Hp} {Q : VK} {E : XK} (h : ∀ (cdv : Value) (Ar : Around) (outer : List Env) (s : Shared), Room 0 (Ar.deeper (PyProof.Rows.envOfC "mask_of" (defScope s_mask_of) s.heap.objs.size A.f_mask_of cdv)) → ∃ t, PSs (cxOf CX0 P w K mg base ["n", "modulus"] "mask_of" (defScope s_mask_of) A.f_mask_of cdv Ar outer s H E).nox (defBody s_mask_of) t ∧ t { nx := fun _ H' => Q .non H', rt := Q } (start ["n", "modulus"] vs) H) (e : vs.length = 2) : sp_mask_of P w mg base K A vs H Q E := ⟨e, h⟩
theorem ok_mask_of (T : Txt w K mg A) : FnOk P w K mg base CX0 1 A.f_mask_of A.d_mask_of ["n", "modulus"] (sp_mask_of P w mg base K A) := T.F_mask_of.ok sc_mask_of (fun _ _ _ _ h => h.1) (fun cdv Ar outer s H vs Q E hr h => h.2 cdv Ar outer s hr)
/-! steps_to_bits -/
theorem sc_steps_to_bits : FnScope ["modulus", "mask", "bits", "c", "unlike", "highest", "low", "found"] ["modulus", "mask", "bits", "c"] (defScope s_steps_to_bits) := ⟨rfl, rfl, rfl, by decide +kernel, rfl, by decide +kernel, by decide +kernel⟩
abbrev sp_steps_to_bits (K : PySem.W.Frag) (A : Adr) : Sp := fun vs H Q _ => ∃ M mask bits c : Int, vs = [.int M, .int mask, .int bits, .int c] ∧ 1 ≤ M ∧ 0 ≤ mask ∧ mask < 2 ^ 101 ∧ 0 ≤ bits ∧ 0 ≤ c ∧ Q (.int (stb M mask bits c)) H
theorem ok_steps_to_bits (T : Txt w K mg A) : FnOk P w K mg base CX0 1 A.f_steps_to_bits A.d_steps_to_bits ["modulus", "mask", "bits", "c"] (sp_steps_to_bits K A) := by
  refine T.F_steps_to_bits.ok sc_steps_to_bits (fun vs H Q E h => ?_) (fun cdv Ar outer s H vs Q E hr h => ?_)
  · obtain ⟨M, mask, bits, c, rfl, m1, k0, k1, b0, c0, k⟩ := h
    rfl
  · obtain ⟨M, mask, bits, c, rfl, m1, k0, k1, b0, c0, k⟩ := h
    have hu := hu_of hr
    have t_q_PART_NAMES := T.q_PART_NAMES
    have t_q_PART_WORDS_slot := T.q_PART_WORDS_slot
    have t_d_PART_WORDS_slot := T.d_PART_WORDS_slot
    have t_q_PART_WORDS_empty := T.q_PART_WORDS_empty
    have t_d_PART_WORDS_empty := T.d_PART_WORDS_empty
    have t_q_PART_WORDS_when := T.q_PART_WORDS_when
    have t_d_PART_WORDS_when := T.d_PART_WORDS_when
    have t_q_MEASURES := T.q_MEASURES
    have t_q_SIGNS := T.q_SIGNS
    have t_q_PLAIN_FULLS := T.q_PLAIN_FULLS
    have t_i_Form := T.i_Form
    have t_kt_Form_Form := T.kt_Form_Form
    have t_kt_int_Form := T.kt_int_Form
    have t_nf_Form_Form := T.nf_Form_Form
    have t_nf_int_Form := T.nf_int_Form
    have t_k_Form := T.k_Form
    have t_k_Scheme := T.k_Scheme
    obtain ⟨u0, u1⟩ := and_nn (xor_nn c0 b0) k0
    rcases (by omega : Builtin.bitAnd (Builtin.bitXor c bits) mask = 0 ∨ ¬ Builtin.bitAnd (Builtin.bitXor c bits) mask = 0) with h | h
    rotate_left 1
    have ib : 1 ≤ Builtin.Int.intBits (Builtin.bitAnd (Builtin.bitXor c bits) mask) ∧ Builtin.Int.intBits (Builtin.bitAnd (Builtin.bitXor c bits) mask) ≤ 101 := intBits_ok (by omega) (by omega)
    generalize hB : Builtin.Int.intBits (Builtin.bitAnd (Builtin.bitXor c bits) mask) = B at ib
    have hp := pow_le (i := (((B : Nat) : Int) - 1).toNat) (by omega)
    have hp0 := pow_pos2 (((B : Nat) : Int) - 1).toNat
    rcases Decidable.em (Builtin.bitAnd c (1 * 2 ^ (((B : Nat) : Int) - 1).toNat) = 0) with g | g
    rotate_left 2
    · skip
      refine ⟨_, (pss_cons (ps_set (i := 4) sc_steps_to_bits.nd rfl (Or.inl rfl) (pe_op op_and (pe_op op_xor (pv 3) (pv 2)) (pv 1)))
      (pss_cons (ps_if (pt_cmpR op_eq (pv 4) pe_int (nomark _)) (pss_one (ps_ret pe_int)) pss_nil)
      (pss_cons ps_never (pss_cons ps_never (pss_cons ps_never (pss_one ps_never)))))), ?_⟩
      try dsimp only [L2.cxOf, L2.Cx.nox, L2.Cx.wish]
      with_reducible refine Rd.seq (Rd.asg (Rd.op (Rd.op (Rd.var (by walk_at "vr") (Rd.var (by walk_at "vr") (Rd.i0 (Rd.var (by walk_at "vr") (Rd.i0 (Rd.name (Rd.seq (Rd.ifS ?_)))))))))))
      with_reducible refine Rd.test (Rd.op (Rd.var (by walk_at "vr") (Rd.c (Rd.eqS (by walk_at "vr") (Rd.bl (Rd.iteT (by walk_at "bT") (Rd.ret (Rd.c ?_))))))))
      unfold stb at k
      rw [if_pos h] at k
      exact k
    · skip
      refine ⟨_, (pss_cons (ps_set (i := 4) sc_steps_to_bits.nd rfl (Or.inl rfl) (pe_op op_and (pe_op op_xor (pv 3) (pv 2)) (pv 1)))
      (pss_cons (ps_if (pt_cmpR op_eq (pv 4) pe_int (nomark _)) (pss_one ps_never) pss_nil)
      (pss_cons (ps_set (i := 5) sc_steps_to_bits.nd rfl (Or.inl rfl) (pe_op op_shl pe_int (pe_op op_sub (pe_bits (pv 4)) pe_int)))
      (pss_cons (ps_set (i := 6) sc_steps_to_bits.nd rfl (Or.inl rfl) (pe_op op_sub (pe_op op_mulW pe_int (pv 5)) pe_int))
      (pss_cons (ps_if (pt_truth (pe_op op_and (pv 3) (pv 5)) (by intro _; rfl)) (pss_one ps_never) (pss_one (ps_set (i := 7) sc_steps_to_bits.nd rfl (Or.inl rfl) (pe_op op_or (pe_op op_sub (pe_op op_or (pv 3) (pv 6)) (pv 6)) (pe_op op_and (pv 2) (pv 6))))))
      (pss_one (ps_ret (pe_op op_mod (pe_op op_sub (pv 7) (pv 3)) (pv 0))))))))), ?_⟩
      try dsimp only [L2.cxOf, L2.Cx.nox, L2.Cx.wish]
      with_reducible refine Rd.seq (Rd.asg (Rd.op (Rd.op (Rd.var (by walk_at "vr") (Rd.var (by walk_at "vr") (Rd.i0 (Rd.var (by walk_at "vr") (Rd.i0 (Rd.name (Rd.seq (Rd.ifS ?_)))))))))))
      with_reducible refine Rd.test (Rd.op (Rd.var (by walk_at "vr") (Rd.c (Rd.eqS (by walk_at "vr") (Rd.bl (Rd.iteF (by walk_at "bF") (Rd.next (Rd.seq (Rd.asg (Rd.op (Rd.c ?_)))))))))))
      with_reducible refine Rd.op (Rd.bits (Rd.var (by walk_at "vr") (⟨_, rfl, (Rd.c (Rd.i0 (Rd.iC (by walk_at "scp") (Rd.name ?_))))⟩)))
      rw [hB]
      with_reducible refine Rd.seq (Rd.asg (Rd.op (Rd.op (Rd.c (Rd.var (by walk_at "vr") (Rd.iC (by walk_at "scm") (Rd.c (Rd.i0 (Rd.name (Rd.seq (Rd.ifS ?_)))))))))))
      with_reducible refine Rd.tru (Rd.op (Rd.var (by walk_at "vr") (Rd.var (by walk_at "vr") (Rd.i0 ?_))))
      refine ⟨_, Rd.truI, ?_⟩
      with_reducible refine Rd.iteF (by walk_at "bF") (Rd.asg (Rd.op (Rd.op (Rd.op (Rd.var (by walk_at "vr") (Rd.var (by walk_at "vr") (Rd.i0 (Rd.var (by walk_at "vr") (Rd.i0 (Rd.op (Rd.var (by walk_at "vr") ?_)))))))))))
      with_reducible refine Rd.var (by walk_at "vr") (Rd.i0 (Rd.i0 (Rd.name (Rd.ret (Rd.op (Rd.op (Rd.var (by walk_at "vr") (Rd.var (by walk_at "vr") (Rd.i0 (Rd.var (by walk_at "vr") (Rd.iC (by walk_at "sc") ?_)))))))))))
      unfold stb at k
      rw [if_neg h, hB, if_neg (fun z => z g)] at k
      exact k
    · skip
      refine ⟨_, (pss_cons (ps_set (i := 4) sc_steps_to_bits.nd rfl (Or.inl rfl) (pe_op op_and (pe_op op_xor (pv 3) (pv 2)) (pv 1)))
      (pss_cons (ps_if (pt_cmpR op_eq (pv 4) pe_int (nomark _)) (pss_one ps_never) pss_nil)
      (pss_cons (ps_set (i := 5) sc_steps_to_bits.nd rfl (Or.inl rfl) (pe_op op_shl pe_int (pe_op op_sub (pe_bits (pv 4)) pe_int)))
      (pss_cons (ps_set (i := 6) sc_steps_to_bits.nd rfl (Or.inl rfl) (pe_op op_sub (pe_op op_mulW pe_int (pv 5)) pe_int))
      (pss_cons (ps_if (pt_truth (pe_op op_and (pv 3) (pv 5)) (by intro _; rfl)) (pss_one (ps_set (i := 7) sc_steps_to_bits.nd rfl (Or.inl rfl) (pe_op op_or (pe_op op_and (pe_op op_add (pe_op op_or (pe_op op_or (pv 3) (pv 1)) (pv 6)) pe_int) (pe_op op_sub (pe_op op_sub (pv 0) pe_int) (pv 1))) (pv 2)))) (pss_one ps_never))
      (pss_one (ps_ret (pe_op op_mod (pe_op op_sub (pv 7) (pv 3)) (pv 0))))))))), ?_⟩
      try dsimp only [L2.cxOf, L2.Cx.nox, L2.Cx.wish]
      with_reducible refine Rd.seq (Rd.asg (Rd.op (Rd.op (Rd.var (by walk_at "vr") (Rd.var (by walk_at "vr") (Rd.i0 (Rd.var (by walk_at "vr") (Rd.i0 (Rd.name (Rd.seq (Rd.ifS ?_)))))))))))
      with_reducible refine Rd.test (Rd.op (Rd.var (by walk_at "vr") (Rd.c (Rd.eqS (by walk_at "vr") (Rd.bl (Rd.iteF (by walk_at "bF") (Rd.next (Rd.seq (Rd.asg (Rd.op (Rd.c ?_)))))))))))
      with_reducible refine Rd.op (Rd.bits (Rd.var (by walk_at "vr") (⟨_, rfl, (Rd.c (Rd.i0 (Rd.iC (by walk_at "scp") (Rd.name ?_))))⟩)))
      rw [hB]
      with_reducible refine Rd.seq (Rd.asg (Rd.op (Rd.op (Rd.c (Rd.var (by walk_at "vr") (Rd.iC (by walk_at "scm") (Rd.c (Rd.i0 (Rd.name (Rd.seq (Rd.ifS ?_)))))))))))
      with_reducible refine Rd.tru (Rd.op (Rd.var (by walk_at "vr") (Rd.var (by walk_at "vr") (Rd.i0 ?_))))
      refine ⟨_, Rd.truI, ?_⟩
      with_reducible refine Rd.iteT (by walk_at "bT") (Rd.asg (Rd.op (Rd.op (Rd.op (Rd.op (Rd.op (Rd.var (by walk_at "vr") (Rd.var (by walk_at "vr") (Rd.i0 (Rd.var (by walk_at "vr") (Rd.i0 ?_)))))))))))
      with_reducible refine Rd.c (Rd.i0 (Rd.op (Rd.op (Rd.var (by walk_at "vr") (Rd.c (Rd.i0 (Rd.var (by walk_at "vr") (Rd.i0 (Rd.i0 (Rd.var (by walk_at "vr") (Rd.i0 ?_)))))))))))
      with_reducible refine Rd.name (Rd.ret (Rd.op (Rd.op (Rd.var (by walk_at "vr") (Rd.var (by walk_at "vr") (Rd.i0 (Rd.var (by walk_at "vr") (Rd.iC (by walk_at "sc") ?_))))))))
      unfold stb at k
      rw [if_neg h, hB, if_pos g] at k
      exact k
/-! mask_gaps -/
theorem sc_mask_gaps : FnScope ["n", "modulus", "c", "free", "gaps", "lower", "bit"] ["n", "modulus", "c"] (defScope s_mask_gaps) := ⟨rfl, rfl, rfl, by decide +kernel, rfl, by decide +kernel, by decide +kernel⟩
abbrev sp_mask_gaps (K : PySem.W.Frag) (A : Adr) : Sp := fun vs H Q _ => ∃ (n M c : Int) (w : Nat), vs = [.int n, .int M, .int c] ∧ 1 ≤ n ∧ n ≤ 100000000000000000000000000000000 ∧ 1 ≤ M ∧ M ≤ 100000000000000000000000000000000 ∧ 0 ≤ c ∧ c < M ∧ w ≤ 100 ∧ M = 2 ^ w ∧ ∀ (l : Addr) (ws : List V) (H' : Hp), Same H H' → H l = none → H' l = some (.lst ws) → Prs H' ws (maskGaps n M c) → Q (.ref l) H'
theorem ok_mask_gaps (T : Txt w K mg A) : FnOk P w K mg base CX0 2 A.f_mask_gaps A.d_mask_gaps ["n", "modulus", "c"] (sp_mask_gaps K A) := by
  refine T.F_mask_gaps.ok sc_mask_gaps (fun vs H Q E h => ?_) (fun cdv Ar outer s H vs Q E hr h => ?_)
  · obtain ⟨n, M, c, w, rfl, n1, n2, m1, m2, c1, c2, hw1, hw, k⟩ := h
    rfl
  · obtain ⟨n, M, c, w, rfl, n1, n2, m1, m2, c1, c2, hw1, hw, k⟩ := h
    have hu := hu_of hr
    have t_q_PART_NAMES := T.q_PART_NAMES
    have t_q_PART_WORDS_slot := T.q_PART_WORDS_slot
    have t_d_PART_WORDS_slot := T.d_PART_WORDS_slot
    have t_q_PART_WORDS_empty := T.q_PART_WORDS_empty
    have t_d_PART_WORDS_empty := T.d_PART_WORDS_empty
    have t_q_PART_WORDS_when := T.q_PART_WORDS_when
    have t_d_PART_WORDS_when := T.d_PART_WORDS_when
    have t_q_MEASURES := T.q_MEASURES
    have t_q_SIGNS := T.q_SIGNS
    have t_q_PLAIN_FULLS := T.q_PLAIN_FULLS
    have t_i_Form := T.i_Form
    have t_kt_Form_Form := T.kt_Form_Form
    have t_kt_int_Form := T.kt_int_Form
    have t_nf_Form_Form := T.nf_Form_Form
    have t_nf_int_Form := T.nf_int_Form
    have t_k_Form := T.k_Form
    have t_k_Scheme := T.k_Scheme
    have pM := pow_le (i := w) hw1
    obtain ⟨f0, f1⟩ := free_ok n1 m1 (by omega)
    refine ⟨_, (pss_cons (ps_set (i := 3) sc_mask_gaps.nd rfl (Or.inl rfl) (pe_op op_sub (pe_op op_sub (pv 1) pe_int) (pe_call (ok_mask_of T) (hr.mono (by decide)) (by rfl) T.m_mask_of T.F_mask_of.kp T.b_mask_of .nil pass0 (pa_cons (pv 0) (pa_cons (pv 1) pa_nil)))))
      (pss_cons (ps_set (i := 4) sc_mask_gaps.nd rfl (Or.inl rfl) (pe_lst pa_nil))
      (pss_cons (ps_set (i := 5) sc_mask_gaps.nd rfl (Or.inl rfl) pe_int)
      (pss_cons (ps_set (i := 6) sc_mask_gaps.nd rfl (Or.inl rfl) pe_int)
      (pss_cons (ps_while PassesOwn.never (pt_cmpR op_lt (pv 6) (pv 1) (nomark _)) (pss_cons (ps_if (pt_truth (pe_op op_and (pv 3) (pv 6)) (by intro _; rfl)) (pss_cons (ps_expr (pe_bm PySem.F.plainAttrs_list PySem.F.slot_list_append PySem.F.type_list_append mt_append (pv 4) (pa_cons (pe_tup (pa_cons (pe_call (ok_steps_to_bits T) (hr.mono (by decide)) (by rfl) T.m_steps_to_bits T.F_steps_to_bits.kp T.b_steps_to_bits .nil pass0 (pa_cons (pv 1) (pa_cons (pe_op op_or (pv 5) (pv 6)) (pa_cons (pv 5) (pa_cons (pv 2) pa_nil))))) (pa_cons (pe_op op_sub (pv 6) (pv 5)) pa_nil))) pa_nil)))
      (pss_one (ps_set (i := 5) sc_mask_gaps.nd rfl (Or.inl rfl) (pe_op op_or (pv 5) (pv 6))))) pss_nil)
      (pss_one (ps_set (i := 6) sc_mask_gaps.nd rfl (Or.inl rfl) (pe_op op_mulW pe_int (pv 6))))))
      (pss_cons (ps_expr (pe_bm PySem.F.plainAttrs_list PySem.F.slot_list_append PySem.F.type_list_append mt_append (pv 4) (pa_cons (pe_tup (pa_cons (pe_call (ok_steps_to_bits T) (hr.mono (by decide)) (by rfl) T.m_steps_to_bits T.F_steps_to_bits.kp T.b_steps_to_bits .nil pass0 (pa_cons (pv 1) (pa_cons (pv 3) (pa_cons (pv 3) (pa_cons (pv 2) pa_nil))))) (pa_cons (pe_op op_sub (pv 1) (pv 3)) pa_nil))) pa_nil)))
      (pss_one (ps_ret (pv 4))))))))), ?_⟩
    try dsimp only [L2.cxOf, L2.Cx.nox, L2.Cx.wish]
    with_reducible refine Rd.seq (Rd.asg (Rd.op (Rd.op (Rd.var (by walk_at "vr") (Rd.c (Rd.i0 (Rd.call (Rd.cons (Rd.var (by walk_at "vr") (Rd.cons (Rd.var (by walk_at "vr") ?_)))))))))))
    with_reducible refine Rd.nil ?_
    refine in_mask_of (fun cdv Ar outer s hr => ?_) rfl
    have hu := hu_of hr
    refine ⟨_, (pss_one (ps_ret (pe_op op_and (pe_op op_sub (pv 0) pe_int) (pe_op op_sub (pv 1) pe_int)))), ?_⟩
    try dsimp only [L2.cxOf, L2.Cx.nox, L2.Cx.wish]
    with_reducible refine Rd.ret (Rd.op (Rd.op (Rd.var (by walk_at "vr") (Rd.c (Rd.i0 (Rd.op (Rd.var (by walk_at "vr") (Rd.c (Rd.i0 (Rd.i0 (Rd.i0 ?_)))))))))))
    with_reducible refine Rd.name ?_
    try dsimp only [Int.reduceToNat, List.set]
    rw [show M - 1 - Builtin.bitAnd (n - 1) (M - 1) = freeOf n M from rfl]
    with_reducible refine Rd.seq (Rd.asg (Rd.lst (Rd.nil (Rd.laid (by walk_at "ll") ?_))))
    intro p0 np0
    with_reducible refine Rd.name ?_
    try dsimp only [Int.reduceToNat, List.set]
    have fresh0 : H p0 = none := by walk_at "nn"
    with_reducible refine Rd.seq (Rd.asg (Rd.c (Rd.name ?_)))
    try dsimp only [Int.reduceToNat, List.set]
    with_reducible refine Rd.seq (Rd.asg (Rd.c (Rd.name ?_)))
    try dsimp only [Int.reduceToNat, List.set]
    with_reducible refine Rd.seq ?_
    refine while_by (fun (σ : L2.St) (H' : Hp) => ∃ (i : Nat) (lower : Int) (acc : List (Int × Int)) (ws : List V), σ = [some (.int n), some (.int M), some (.int c), some (.int (freeOf n M)), some (.ref p0), some (.int lower), some (.int (2 ^ i))] ∧ i ≤ w ∧ 0 ≤ lower ∧ lower < 2 ^ i ∧ Same H H' ∧ H' p0 = some (.lst ws) ∧ Prs H' ws acc ∧ mgLoop (freeOf n M) M c (101 - i) lower (2 ^ i) acc = mgLoop (freeOf n M) M c 101 0 1 [] ∧ acc.length ≤ i) (fun σ _ => match σ[6]? with | some (some (V.int b)) => (M - b).toNat | _ => 0) ⟨0, 0, [], [], rfl, Nat.zero_le _, Int.le_refl _, by decide, (by walk_at "frm"), (by walk_at "hp"), True.intro, rfl, Nat.le_refl _⟩ (fun σ H0 ⟨i, lower, acc, ws, es, i1, l0, l1, S0, hl, hp, hm, al⟩ => ?_) ?_
    · subst es
      have pi := pow_le (i := i) (by omega)
      have pp := pow_pos2 i
      have wl := hp.len
      with_reducible refine Rd.test (Rd.op (Rd.var (by walk_at "vr") (Rd.var (by walk_at "vr") (Rd.i0 (Rd.bl ?_)))))
      refine Rd.ite (fun h0 => ?_) (fun h0 => ?_)
      · try simp only [decide_eq_true_eq, Bool.not_eq_true', decide_eq_false_iff_not, Bool.not_eq_true, Bool.not_eq_eq_eq_not, Bool.not_true, Bool.not_false] at h0
        have iw : i < w := by
          rcases Nat.lt_or_ge i w with z | z
          · exact z
          · have := pow_mono z
            omega
        have ol := or_lt l0 (by omega : (0 : Int) ≤ 2 ^ i) (k := i + 1) (by rw [pow2s]; omega) (by rw [pow2s]; omega)
        have on := or_nn l0 (by omega : (0 : Int) ≤ 2 ^ i)
        have p1 := pow_mono (i := i + 1) (j := 100) (by omega)
        with_reducible refine Rd.seq (Rd.ifS (Rd.tru (Rd.op (Rd.var (by walk_at "vr") (Rd.var (by walk_at "vr") (Rd.i0 ?_))))))
        refine ⟨_, Rd.truI, ?_⟩
        refine Rd.ite (fun h1 => ?_) (fun h1 => ?_)
        · try simp only [decide_eq_true_eq, Bool.not_eq_true', decide_eq_false_iff_not, Bool.not_eq_true, Bool.not_eq_eq_eq_not, Bool.not_true, Bool.not_false] at h1
          with_reducible refine Rd.seq (Rd.drop ?_)
          try unfold tBM
          with_reducible refine Rd.var (by walk_at "vr") ?_
          refine ⟨Or.inl ⟨rfl, _, (by walk_at "hpl")⟩, ?_⟩
          with_reducible refine Rd.cons (Rd.tup (Rd.cons (Rd.call (Rd.cons (Rd.var (by walk_at "vr") (Rd.cons (Rd.op (Rd.var (by walk_at "vr") (Rd.var (by walk_at "vr") (Rd.i0 (Rd.cons ?_)))))))))))
          with_reducible refine Rd.var (by walk_at "vr") (Rd.cons (Rd.var (by walk_at "vr") (Rd.nil ?_)))
          refine ⟨_, _, _, _, rfl, (by walk_at "sc"), (by walk_at "sc"), (by walk_at "sc"), (by walk_at "sc"), (by walk_at "sc"), ?_⟩
          with_reducible refine Rd.cons (Rd.op (Rd.var (by walk_at "vr") (Rd.var (by walk_at "vr") (Rd.i0 (Rd.nil (Rd.laid (by walk_at "ll") ?_))))))
          intro p1 np1
          with_reducible refine Rd.nil ?_
          refine ⟨_, _, _, rfl, rfl, (by walk_at "hp"), (by walk_at "sz"), ?_⟩
          with_reducible refine Rd.asg (Rd.op (Rd.var (by walk_at "vr") (Rd.var (by walk_at "vr") (Rd.i0 (Rd.name ?_)))))
          try dsimp only [Int.reduceToNat, List.set]
          with_reducible refine Rd.asg (Rd.op (Rd.c (Rd.var (by walk_at "vr") (Rd.iC (by walk_at "scm") (Rd.name ?_)))))
          try dsimp only [Int.reduceToNat, List.set]
          first
            | exact ⟨⟨i + 1, lower, acc, ws, (by rw [pow2s]), iw, l0, (by rw [pow2s]; omega), (by walk_at "frm"), (by walk_at "hp"), hp, (by rw [pow2s, ← hm, mg_out (by omega) h0 (by simpa using h1)]), (by omega)⟩, (by show (M - 2 * 2 ^ i).toNat < (M - 2 ^ i).toNat; omega)⟩
            | exact ⟨⟨i + 1, _, acc ++ [(stb M (Builtin.bitOr lower (2 ^ i)) lower c, 2 ^ i - lower)], _, (by rw [pow2s]), iw, on, ol, (by walk_at "frm"), (by walk_at "hp"), Prs.app (by walk_at "hp") (hp.keep fun q xs h => by have n1 : q ≠ p0 := L2.ne_of h hl (by intro z; cases z); walk_at "hp"), (by rw [pow2s, ← hm, mg_in (by omega) h0 (by simpa using h1)]), (by rw [List.length_append]; simp only [List.length_cons, List.length_nil]; omega)⟩, (by show (M - 2 * 2 ^ i).toNat < (M - 2 ^ i).toNat; omega)⟩
        · try simp only [decide_eq_true_eq, Bool.not_eq_true', decide_eq_false_iff_not, Bool.not_eq_true, Bool.not_eq_eq_eq_not, Bool.not_true, Bool.not_false, Int.not_lt, Int.not_le, Decidable.not_not] at h1
          with_reducible refine Rd.next (Rd.asg (Rd.op (Rd.c (Rd.var (by walk_at "vr") (Rd.iC (by walk_at "scm") (Rd.name ?_))))))
          try dsimp only [Int.reduceToNat, List.set]
          first
            | exact ⟨⟨i + 1, lower, acc, ws, (by rw [pow2s]), iw, l0, (by rw [pow2s]; omega), (by walk_at "frm"), (by walk_at "hp"), hp, (by rw [pow2s, ← hm, mg_out (by omega) h0 (by simpa using h1)]), (by omega)⟩, (by show (M - 2 * 2 ^ i).toNat < (M - 2 ^ i).toNat; omega)⟩
            | exact ⟨⟨i + 1, _, acc ++ [(stb M (Builtin.bitOr lower (2 ^ i)) lower c, 2 ^ i - lower)], _, (by rw [pow2s]), iw, on, ol, (by walk_at "frm"), (by walk_at "hp"), Prs.app (by walk_at "hp") (hp.keep fun q xs h => by have n1 : q ≠ p0 := L2.ne_of h hl (by intro z; cases z); walk_at "hp"), (by rw [pow2s, ← hm, mg_in (by omega) h0 (by simpa using h1)]), (by rw [List.length_append]; simp only [List.length_cons, List.length_nil]; omega)⟩, (by show (M - 2 * 2 ^ i).toNat < (M - 2 ^ i).toNat; omega)⟩
      · try simp only [decide_eq_true_eq, Bool.not_eq_true', decide_eq_false_iff_not, Bool.not_eq_true, Bool.not_eq_eq_eq_not, Bool.not_true, Bool.not_false, Int.not_lt, Int.not_le, Decidable.not_not] at h0
        skip
        with_reducible refine Rd.seq (Rd.drop ?_)
        try unfold tBM
        with_reducible refine Rd.var (by walk_at "vr") ?_
        refine ⟨Or.inl ⟨rfl, _, (by walk_at "hpl")⟩, ?_⟩
        with_reducible refine Rd.cons (Rd.tup (Rd.cons (Rd.call (Rd.cons (Rd.var (by walk_at "vr") (Rd.cons (Rd.var (by walk_at "vr") (Rd.cons (Rd.var (by walk_at "vr") (Rd.cons (Rd.var (by walk_at "vr") ?_)))))))))))
        with_reducible refine Rd.nil ?_
        refine ⟨_, _, _, _, rfl, (by walk_at "sc"), (by walk_at "sc"), (by walk_at "sc"), (by walk_at "sc"), (by walk_at "sc"), ?_⟩
        with_reducible refine Rd.cons (Rd.op (Rd.var (by walk_at "vr") (Rd.var (by walk_at "vr") (Rd.i0 (Rd.nil (Rd.laid (by walk_at "ll") ?_))))))
        intro p2 np2
        with_reducible refine Rd.nil ?_
        refine ⟨_, _, _, rfl, rfl, (by walk_at "hp"), (by walk_at "sz"), ?_⟩
        with_reducible refine Rd.ret (Rd.var (by walk_at "vr") ?_)
        exact k _ _ _ (by walk_at "frm") fresh0 (by walk_at "hp") (by unfold maskGaps; rw [← hm, mg_end (i := i) (b := 2 ^ i) (M := M) (by omega) (by omega)]; exact Prs.app (by walk_at "hp") (hp.keep fun q xs h => by have n1 : q ≠ p0 := L2.ne_of h hl (by intro z; cases z); walk_at "hp"))
    · intro σ H R R' hR h
      obtain ⟨v, e1, u, e2, i, j, e3, e4, k, e5, q⟩ := h
      exact ⟨v, e1, u, e2, i, j, e3, e4, k, e5, hR _ _ q⟩
/-! off_spans -/
theorem sc_off_spans : FnScope ["n", "modulus"] ["n", "modulus"] (defScope s_off_spans) := ⟨rfl, rfl, rfl, by decide +kernel, rfl, by decide +kernel, by decide +kernel⟩
abbrev sp_off_spans (K : PySem.W.Frag) (A : Adr) : Sp := fun vs H Q _ => ∃ n M : Int, vs = [.int n, .int M] ∧ 1 ≤ n ∧ n ≤ 100000000000000000000000000000000 ∧ 1 ≤ M ∧ M ≤ 100000000000000000000000000000000 ∧ ∀ (l : Addr) (ws : List V) (H' : Hp), Same H H' → H l = none → H' l = some (.lst ws) → Trips H' ws (offSpans n M) → Q (.ref l) H'
theorem ok_off_spans (T : Txt w K mg A) : FnOk P w K mg base CX0 1 A.f_off_spans A.d_off_spans ["n", "modulus"] (sp_off_spans K A) := by
  refine T.F_off_spans.ok sc_off_spans (fun vs H Q E h => ?_) (fun cdv Ar outer s H vs Q E hr h => ?_)
  · obtain ⟨n, M, rfl, n1, n2, m1, m2, k⟩ := h
    rfl
  · obtain ⟨n, M, rfl, n1, n2, m1, m2, k⟩ := h
    have hu := hu_of hr
    have t_q_PART_NAMES := T.q_PART_NAMES
    have t_q_PART_WORDS_slot := T.q_PART_WORDS_slot
    have t_d_PART_WORDS_slot := T.d_PART_WORDS_slot
    have t_q_PART_WORDS_empty := T.q_PART_WORDS_empty
    have t_d_PART_WORDS_empty := T.d_PART_WORDS_empty
    have t_q_PART_WORDS_when := T.q_PART_WORDS_when
    have t_d_PART_WORDS_when := T.d_PART_WORDS_when
    have t_q_MEASURES := T.q_MEASURES
    have t_q_SIGNS := T.q_SIGNS
    have t_q_PLAIN_FULLS := T.q_PLAIN_FULLS
    have t_i_Form := T.i_Form
    have t_kt_Form_Form := T.kt_Form_Form
    have t_kt_int_Form := T.kt_int_Form
    have t_nf_Form_Form := T.nf_Form_Form
    have t_nf_int_Form := T.nf_int_Form
    have t_k_Form := T.k_Form
    have t_k_Scheme := T.k_Scheme
    rcases (by omega : M ≤ n ∨ (¬ M ≤ n ∧ M < 2 * n) ∨ (¬ M ≤ n ∧ ¬ M < 2 * n)) with h | ⟨h, g⟩ | ⟨h, g⟩
    · have esp : offSpans n M = [(0, M, M)] := if_pos h
      refine ⟨_, (pss_cons (ps_if (pt_cmpR op_le (pv 1) (pv 0) (nomark _)) (pss_one (ps_ret (pe_lst (pa_cons (pe_tup (pa_cons pe_int (pa_cons (pv 1) (pa_cons (pv 1) pa_nil)))) pa_nil)))) pss_nil)
      (pss_cons ps_never (pss_one ps_never))), ?_⟩
      try dsimp only [L2.cxOf, L2.Cx.nox, L2.Cx.wish]
      with_reducible refine Rd.seq (Rd.ifS (Rd.test (Rd.op (Rd.var (by walk_at "vr") (Rd.var (by walk_at "vr") (Rd.i0 (Rd.bl (Rd.iteT (by walk_at "bT") (Rd.ret (Rd.lst (Rd.cons ?_)))))))))))
      with_reducible refine Rd.tup (Rd.cons (Rd.c (Rd.cons (Rd.var (by walk_at "vr") (Rd.cons (Rd.var (by walk_at "vr") (Rd.nil (Rd.laid (by walk_at "ll") ?_))))))))
      intro p1 np1
      with_reducible refine Rd.nil (Rd.laid (by walk_at "ll") ?_)
      intro p0 np0
      exact k _ _ _ (by walk_at "frm") (by walk_at "nn") (by walk_at "hp") (by rw [esp]; exact ⟨⟨_, rfl, (by walk_at "hp")⟩, True.intro⟩)
    · have esp : offSpans n M = [(0, M - n, n), (M - n, n, M), (n, M, M - n)] := by unfold offSpans; rw [if_neg h, if_pos g]
      refine ⟨_, (pss_cons (ps_if (pt_cmpR op_le (pv 1) (pv 0) (nomark _)) (pss_one ps_never) pss_nil)
      (pss_cons (ps_if (pt_cmpR op_lt (pv 1) (pe_op op_mulW pe_int (pv 0)) (nomark _)) (pss_one (ps_ret (pe_lst (pa_cons (pe_tup (pa_cons pe_int (pa_cons (pe_op op_sub (pv 1) (pv 0)) (pa_cons (pv 0) pa_nil)))) (pa_cons (pe_tup (pa_cons (pe_op op_sub (pv 1) (pv 0)) (pa_cons (pv 0) (pa_cons (pv 1) pa_nil)))) (pa_cons (pe_tup (pa_cons (pv 0) (pa_cons (pv 1) (pa_cons (pe_op op_sub (pv 1) (pv 0)) pa_nil)))) pa_nil)))))) pss_nil)
      (pss_one ps_never))), ?_⟩
      try dsimp only [L2.cxOf, L2.Cx.nox, L2.Cx.wish]
      with_reducible refine Rd.seq (Rd.ifS (Rd.test (Rd.op (Rd.var (by walk_at "vr") (Rd.var (by walk_at "vr") (Rd.i0 (Rd.bl (Rd.iteF (by walk_at "bF") (Rd.next (Rd.seq (Rd.ifS ?_)))))))))))
      with_reducible refine Rd.test (Rd.op (Rd.var (by walk_at "vr") (Rd.op (Rd.c (Rd.var (by walk_at "vr") (Rd.iC (by walk_at "scm") (Rd.i0 (Rd.bl (Rd.iteT (by walk_at "bT") (Rd.ret (Rd.lst ?_)))))))))))
      with_reducible refine Rd.cons (Rd.tup (Rd.cons (Rd.c (Rd.cons (Rd.op (Rd.var (by walk_at "vr") (Rd.var (by walk_at "vr") (Rd.i0 (Rd.cons (Rd.var (by walk_at "vr") (Rd.nil ?_)))))))))))
      with_reducible refine Rd.laid (by walk_at "ll") ?_
      intro p3 np3
      with_reducible refine Rd.cons (Rd.tup (Rd.cons (Rd.op (Rd.var (by walk_at "vr") (Rd.var (by walk_at "vr") (Rd.i0 (Rd.cons (Rd.var (by walk_at "vr") (Rd.cons (Rd.var (by walk_at "vr") (Rd.nil ?_)))))))))))
      with_reducible refine Rd.laid (by walk_at "ll") ?_
      intro p4 np4
      with_reducible refine Rd.cons (Rd.tup (Rd.cons (Rd.var (by walk_at "vr") (Rd.cons (Rd.var (by walk_at "vr") (Rd.cons (Rd.op (Rd.var (by walk_at "vr") (Rd.var (by walk_at "vr") (Rd.i0 (Rd.nil ?_)))))))))))
      with_reducible refine Rd.laid (by walk_at "ll") ?_
      intro p5 np5
      with_reducible refine Rd.nil (Rd.laid (by walk_at "ll") ?_)
      intro p2 np2
      exact k _ _ _ (by walk_at "frm") (by walk_at "nn") (by walk_at "hp") (by rw [esp]; exact ⟨⟨_, rfl, (by walk_at "hp")⟩, ⟨_, rfl, (by walk_at "hp")⟩, ⟨_, rfl, (by walk_at "hp")⟩, True.intro⟩)
    · have esp : offSpans n M = [(0, n, n), (n, 2 * n, M - n)] := by unfold offSpans; rw [if_neg h, if_neg g]
      refine ⟨_, (pss_cons (ps_if (pt_cmpR op_le (pv 1) (pv 0) (nomark _)) (pss_one ps_never) pss_nil)
      (pss_cons (ps_if (pt_cmpR op_lt (pv 1) (pe_op op_mulW pe_int (pv 0)) (nomark _)) (pss_one ps_never) pss_nil)
      (pss_one (ps_ret (pe_lst (pa_cons (pe_tup (pa_cons pe_int (pa_cons (pv 0) (pa_cons (pv 0) pa_nil)))) (pa_cons (pe_tup (pa_cons (pv 0) (pa_cons (pe_op op_mulW pe_int (pv 0)) (pa_cons (pe_op op_sub (pv 1) (pv 0)) pa_nil)))) pa_nil))))))), ?_⟩
      try dsimp only [L2.cxOf, L2.Cx.nox, L2.Cx.wish]
      with_reducible refine Rd.seq (Rd.ifS (Rd.test (Rd.op (Rd.var (by walk_at "vr") (Rd.var (by walk_at "vr") (Rd.i0 (Rd.bl (Rd.iteF (by walk_at "bF") (Rd.next (Rd.seq (Rd.ifS ?_)))))))))))
      with_reducible refine Rd.test (Rd.op (Rd.var (by walk_at "vr") (Rd.op (Rd.c (Rd.var (by walk_at "vr") (Rd.iC (by walk_at "scm") (Rd.i0 (Rd.bl (Rd.iteF (by walk_at "bF") (Rd.next (Rd.ret ?_)))))))))))
      with_reducible refine Rd.lst (Rd.cons (Rd.tup (Rd.cons (Rd.c (Rd.cons (Rd.var (by walk_at "vr") (Rd.cons (Rd.var (by walk_at "vr") (Rd.nil (Rd.laid (by walk_at "ll") ?_))))))))))
      intro p7 np7
      with_reducible refine Rd.cons (Rd.tup (Rd.cons (Rd.var (by walk_at "vr") (Rd.cons (Rd.op (Rd.c (Rd.var (by walk_at "vr") (Rd.iC (by walk_at "scm") (Rd.cons (Rd.op (Rd.var (by walk_at "vr") ?_)))))))))))
      with_reducible refine Rd.var (by walk_at "vr") (Rd.i0 (Rd.nil (Rd.laid (by walk_at "ll") ?_)))
      intro p8 np8
      with_reducible refine Rd.nil (Rd.laid (by walk_at "ll") ?_)
      intro p6 np6
      exact k _ _ _ (by walk_at "frm") (by walk_at "nn") (by walk_at "hp") (by rw [esp]; exact ⟨⟨_, rfl, (by walk_at "hp")⟩, ⟨_, rfl, (by walk_at "hp")⟩, True.intro⟩)
/-! rest_spans -/
theorem sc_rest_spans : FnScope ["n", "modulus", "left"] ["n", "modulus"] (defScope s_rest_spans) := ⟨rfl, rfl, rfl, by decide +kernel, rfl, by decide +kernel, by decide +kernel⟩
abbrev sp_rest_spans (K : PySem.W.Frag) (A : Adr) : Sp := fun vs H Q _ => ∃ n M : Int, vs = [.int n, .int M] ∧ 1 ≤ n ∧ n ≤ 100000000000000000000000000000000 ∧ 1 ≤ M ∧ M ≤ 100000000000000000000000000000000 ∧ ∀ (l : Addr) (ws : List V) (H' : Hp), Same H H' → H l = none → H' l = some (.lst ws) → Trips H' ws (restSpans n M) → Q (.ref l) H'
theorem ok_rest_spans (T : Txt w K mg A) : FnOk P w K mg base CX0 1 A.f_rest_spans A.d_rest_spans ["n", "modulus"] (sp_rest_spans K A) := by
  refine T.F_rest_spans.ok sc_rest_spans (fun vs H Q E h => ?_) (fun cdv Ar outer s H vs Q E hr h => ?_)
  · obtain ⟨n, M, rfl, n1, n2, m1, m2, k⟩ := h
    rfl
  · obtain ⟨n, M, rfl, n1, n2, m1, m2, k⟩ := h
    have hu := hu_of hr
    have t_q_PART_NAMES := T.q_PART_NAMES
    have t_q_PART_WORDS_slot := T.q_PART_WORDS_slot
    have t_d_PART_WORDS_slot := T.d_PART_WORDS_slot
    have t_q_PART_WORDS_empty := T.q_PART_WORDS_empty
    have t_d_PART_WORDS_empty := T.d_PART_WORDS_empty
    have t_q_PART_WORDS_when := T.q_PART_WORDS_when
    have t_d_PART_WORDS_when := T.d_PART_WORDS_when
    have t_q_MEASURES := T.q_MEASURES
    have t_q_SIGNS := T.q_SIGNS
    have t_q_PLAIN_FULLS := T.q_PLAIN_FULLS
    have t_i_Form := T.i_Form
    have t_kt_Form_Form := T.kt_Form_Form
    have t_kt_int_Form := T.kt_int_Form
    have t_nf_Form_Form := T.nf_Form_Form
    have t_nf_int_Form := T.nf_int_Form
    have t_k_Form := T.k_Form
    have t_k_Scheme := T.k_Scheme
    have e1 := Int.emod_nonneg M (show n ≠ 0 by omega)
    have e2 := Int.emod_lt_of_pos M (show 0 < n by omega)
    rcases (by omega : M ≤ n ∨ (¬ M ≤ n ∧ M % n = 0) ∨ (¬ M ≤ n ∧ ¬ M % n = 0)) with h | ⟨h, g⟩ | ⟨h, g⟩
    · have esp : restSpans n M = [(0, M, M)] := if_pos h
      refine ⟨_, (pss_cons (ps_if (pt_cmpR op_le (pv 1) (pv 0) (nomark _)) (pss_one (ps_ret (pe_lst (pa_cons (pe_tup (pa_cons pe_int (pa_cons (pv 1) (pa_cons (pv 1) pa_nil)))) pa_nil)))) pss_nil)
      (pss_cons ps_never (pss_cons ps_never (pss_one ps_never)))), ?_⟩
      try dsimp only [L2.cxOf, L2.Cx.nox, L2.Cx.wish]
      with_reducible refine Rd.seq (Rd.ifS (Rd.test (Rd.op (Rd.var (by walk_at "vr") (Rd.var (by walk_at "vr") (Rd.i0 (Rd.bl (Rd.iteT (by walk_at "bT") (Rd.ret (Rd.lst (Rd.cons ?_)))))))))))
      with_reducible refine Rd.tup (Rd.cons (Rd.c (Rd.cons (Rd.var (by walk_at "vr") (Rd.cons (Rd.var (by walk_at "vr") (Rd.nil (Rd.laid (by walk_at "ll") ?_))))))))
      intro p1 np1
      with_reducible refine Rd.nil (Rd.laid (by walk_at "ll") ?_)
      intro p0 np0
      exact k _ _ _ (by walk_at "frm") (by walk_at "nn") (by walk_at "hp") (by rw [esp]; exact ⟨⟨_, rfl, (by walk_at "hp")⟩, True.intro⟩)
    · have esp : restSpans n M = [(0, M, n)] := by unfold restSpans; rw [if_neg h, if_pos g]
      refine ⟨_, (pss_cons (ps_if (pt_cmpR op_le (pv 1) (pv 0) (nomark _)) (pss_one ps_never) pss_nil)
      (pss_cons (ps_set (i := 2) sc_rest_spans.nd rfl (Or.inl rfl) (pe_op op_mod (pv 1) (pv 0)))
      (pss_cons (ps_if (pt_cmpR op_eq (pv 2) pe_int (nomark _)) (pss_one (ps_ret (pe_lst (pa_cons (pe_tup (pa_cons pe_int (pa_cons (pv 1) (pa_cons (pv 0) pa_nil)))) pa_nil)))) pss_nil)
      (pss_one ps_never)))), ?_⟩
      try dsimp only [L2.cxOf, L2.Cx.nox, L2.Cx.wish]
      with_reducible refine Rd.seq (Rd.ifS (Rd.test (Rd.op (Rd.var (by walk_at "vr") (Rd.var (by walk_at "vr") (Rd.i0 (Rd.bl (Rd.iteF (by walk_at "bF") (Rd.next (Rd.seq (Rd.asg ?_)))))))))))
      with_reducible refine Rd.op (Rd.var (by walk_at "vr") (Rd.var (by walk_at "vr") (Rd.iC (by walk_at "sc") (Rd.name (Rd.seq (Rd.ifS (Rd.test (Rd.op (Rd.var (by walk_at "vr") (Rd.c (Rd.eqS (by walk_at "vr") ?_)))))))))))
      with_reducible refine Rd.bl (Rd.iteT (by walk_at "bT") (Rd.ret (Rd.lst (Rd.cons (Rd.tup (Rd.cons (Rd.c (Rd.cons (Rd.var (by walk_at "vr") (Rd.cons (Rd.var (by walk_at "vr") ?_)))))))))))
      with_reducible refine Rd.nil (Rd.laid (by walk_at "ll") ?_)
      intro p3 np3
      with_reducible refine Rd.nil (Rd.laid (by walk_at "ll") ?_)
      intro p2 np2
      exact k _ _ _ (by walk_at "frm") (by walk_at "nn") (by walk_at "hp") (by rw [esp]; exact ⟨⟨_, rfl, (by walk_at "hp")⟩, True.intro⟩)
    · have esp : restSpans n M = [(0, M - n, n), (M - n, M - M % n, n + M % n), (M - M % n, M, M % n)] := by unfold restSpans; rw [if_neg h, if_neg g]
      refine ⟨_, (pss_cons (ps_if (pt_cmpR op_le (pv 1) (pv 0) (nomark _)) (pss_one ps_never) pss_nil)
      (pss_cons (ps_set (i := 2) sc_rest_spans.nd rfl (Or.inl rfl) (pe_op op_mod (pv 1) (pv 0)))
      (pss_cons (ps_if (pt_cmpR op_eq (pv 2) pe_int (nomark _)) (pss_one ps_never) pss_nil)
      (pss_one (ps_ret (pe_lst (pa_cons (pe_tup (pa_cons pe_int (pa_cons (pe_op op_sub (pv 1) (pv 0)) (pa_cons (pv 0) pa_nil)))) (pa_cons (pe_tup (pa_cons (pe_op op_sub (pv 1) (pv 0)) (pa_cons (pe_op op_sub (pv 1) (pv 2)) (pa_cons (pe_op op_add (pv 0) (pv 2)) pa_nil)))) (pa_cons (pe_tup (pa_cons (pe_op op_sub (pv 1) (pv 2)) (pa_cons (pv 1) (pa_cons (pv 2) pa_nil)))) pa_nil))))))))), ?_⟩
      try dsimp only [L2.cxOf, L2.Cx.nox, L2.Cx.wish]
      with_reducible refine Rd.seq (Rd.ifS (Rd.test (Rd.op (Rd.var (by walk_at "vr") (Rd.var (by walk_at "vr") (Rd.i0 (Rd.bl (Rd.iteF (by walk_at "bF") (Rd.next (Rd.seq (Rd.asg ?_)))))))))))
      with_reducible refine Rd.op (Rd.var (by walk_at "vr") (Rd.var (by walk_at "vr") (Rd.iC (by walk_at "sc") (Rd.name (Rd.seq (Rd.ifS (Rd.test (Rd.op (Rd.var (by walk_at "vr") (Rd.c (Rd.eqS (by walk_at "vr") ?_)))))))))))
      with_reducible refine Rd.bl (Rd.iteF (by walk_at "bF") (Rd.next (Rd.ret (Rd.lst (Rd.cons (Rd.tup (Rd.cons (Rd.c (Rd.cons (Rd.op (Rd.var (by walk_at "vr") ?_)))))))))))
      with_reducible refine Rd.var (by walk_at "vr") (Rd.i0 (Rd.cons (Rd.var (by walk_at "vr") (Rd.nil (Rd.laid (by walk_at "ll") ?_)))))
      intro p5 np5
      with_reducible refine Rd.cons (Rd.tup (Rd.cons (Rd.op (Rd.var (by walk_at "vr") (Rd.var (by walk_at "vr") (Rd.i0 (Rd.cons (Rd.op (Rd.var (by walk_at "vr") (Rd.var (by walk_at "vr") (Rd.i0 ?_)))))))))))
      with_reducible refine Rd.cons (Rd.op (Rd.var (by walk_at "vr") (Rd.var (by walk_at "vr") (Rd.i0 (Rd.nil (Rd.laid (by walk_at "ll") ?_))))))
      intro p6 np6
      with_reducible refine Rd.cons (Rd.tup (Rd.cons (Rd.op (Rd.var (by walk_at "vr") (Rd.var (by walk_at "vr") (Rd.i0 (Rd.cons (Rd.var (by walk_at "vr") (Rd.cons (Rd.var (by walk_at "vr") (Rd.nil ?_)))))))))))
      with_reducible refine Rd.laid (by walk_at "ll") ?_
      intro p7 np7
      with_reducible refine Rd.nil (Rd.laid (by walk_at "ll") ?_)
      intro p4 np4
      exact k _ _ _ (by walk_at "frm") (by walk_at "nn") (by walk_at "hp") (by rw [esp]; exact ⟨⟨_, rfl, (by walk_at "hp")⟩, ⟨_, rfl, (by walk_at "hp")⟩, ⟨_, rfl, (by walk_at "hp")⟩, True.intro⟩)
/-! steps_to_span -/
theorem sc_steps_to_span : FnScope ["first", "end", "modulus", "c"] ["first", "end", "modulus", "c"] (defScope s_steps_to_span) := ⟨rfl, rfl, rfl, by decide +kernel, rfl, by decide +kernel, by decide +kernel⟩
abbrev sp_steps_to_span (K : PySem.W.Frag) (A : Adr) : Sp := fun vs H Q _ => ∃ f e M c : Int, vs = [.int f, .int e, .int M, .int c] ∧ 1 ≤ M ∧ Q (.int (stepsTo f e M c)) H
theorem ok_steps_to_span (T : Txt w K mg A) : FnOk P w K mg base CX0 1 A.f_steps_to_span A.d_steps_to_span ["first", "end", "modulus", "c"] (sp_steps_to_span K A) := by
  refine T.F_steps_to_span.ok sc_steps_to_span (fun vs H Q E h => ?_) (fun cdv Ar outer s H vs Q E hr h => ?_)
  · obtain ⟨f, e, M, c, rfl, m1, k⟩ := h
    rfl
  · obtain ⟨f, e, M, c, rfl, m1, k⟩ := h
    have hu := hu_of hr
    have t_q_PART_NAMES := T.q_PART_NAMES
    have t_q_PART_WORDS_slot := T.q_PART_WORDS_slot
    have t_d_PART_WORDS_slot := T.d_PART_WORDS_slot
    have t_q_PART_WORDS_empty := T.q_PART_WORDS_empty
    have t_d_PART_WORDS_empty := T.d_PART_WORDS_empty
    have t_q_PART_WORDS_when := T.q_PART_WORDS_when
    have t_d_PART_WORDS_when := T.d_PART_WORDS_when
    have t_q_MEASURES := T.q_MEASURES
    have t_q_SIGNS := T.q_SIGNS
    have t_q_PLAIN_FULLS := T.q_PLAIN_FULLS
    have t_i_Form := T.i_Form
    have t_kt_Form_Form := T.kt_Form_Form
    have t_kt_int_Form := T.kt_int_Form
    have t_nf_Form_Form := T.nf_Form_Form
    have t_nf_int_Form := T.nf_int_Form
    have t_k_Form := T.k_Form
    have t_k_Scheme := T.k_Scheme
    rcases (by omega : (f ≤ c ∧ c < e) ∨ ¬ (f ≤ c ∧ c < e)) with h | h
    · skip
      refine ⟨_, (pss_cons (ps_if (pt_chain op_le op_lt (pv 0) (pv 3) (pv 1)) (pss_one (ps_ret pe_int)) pss_nil)
      (pss_one ps_never)), ?_⟩
      try dsimp only [L2.cxOf, L2.Cx.nox, L2.Cx.wish]
      with_reducible refine Rd.seq (Rd.ifS (Rd.test (Rd.chain (Rd.var (by walk_at "vr") (Rd.var (by walk_at "vr") (Rd.i0 (Rd.bl (Rd.iteT (by walk_at "bT") (Rd.var (by walk_at "vr") (Rd.i0 (Rd.bl ?_)))))))))))
      with_reducible refine Rd.iteT (by walk_at "bT") (Rd.ret (Rd.c ?_))
      unfold stepsTo at k
      rw [if_pos h] at k
      exact k
    · skip
      refine ⟨_, (pss_cons (ps_if (pt_chain op_le op_lt (pv 0) (pv 3) (pv 1)) (pss_one ps_never) pss_nil)
      (pss_one (ps_ret (pe_op op_mod (pe_op op_sub (pv 0) (pv 3)) (pv 2))))), ?_⟩
      try dsimp only [L2.cxOf, L2.Cx.nox, L2.Cx.wish]
      with_reducible refine Rd.seq (Rd.ifS (Rd.test (Rd.chain (Rd.var (by walk_at "vr") (Rd.var (by walk_at "vr") (Rd.i0 (Rd.bl ?_)))))))
      refine' Rd.chainP (d := _) (fun Q0 hq0 => ?pa0) ?pb0
      case pa0 =>
        with_reducible refine Rd.var (by walk_at "vr") (Rd.i0 ?_)
        exact hq0
      rotate_left 0
      with_reducible refine Rd.bl (Rd.iteF (by walk_at "bF") (Rd.next (Rd.ret (Rd.op (Rd.op (Rd.var (by walk_at "vr") (Rd.var (by walk_at "vr") (Rd.i0 (Rd.var (by walk_at "vr") (Rd.iC (by walk_at "sc") ?_))))))))))
      unfold stepsTo at k
      rw [if_neg h] at k
      exact k
/-! gaps_from -/
theorem sc_gaps_from : FnScope ["kind", "n", "modulus", "c", "spans", "first", "end", "gap"] ["kind", "n", "modulus", "c"] (defScope s_gaps_from) := ⟨rfl, rfl, rfl, by decide +kernel, rfl, by decide +kernel, by decide +kernel⟩
abbrev sp_gaps_from (K : PySem.W.Frag) (A : Adr) : Sp := fun vs H Q _ => ∃ (k : Str) (n M c : Int), vs = [.str k, .int n, .int M, .int c] ∧ k ∈ wSlot ∧ 1 ≤ n ∧ n ≤ 100000000000000000000000000000000 ∧ 1 ≤ M ∧ M ≤ 100000000000000000000000000000000 ∧ 0 ≤ c ∧ c < M ∧ (k = "mask" → ∃ w : Nat, w ≤ 100 ∧ M = 2 ^ w) ∧ ∀ (l : Addr) (ws : List V) (H' : Hp), Same H H' → H l = none → H' l = some (.lst ws) → Prs H' ws (gapsM k n M c) → Q (.ref l) H'
theorem ok_gaps_from (T : Txt w K mg A) : FnOk P w K mg base CX0 3 A.f_gaps_from A.d_gaps_from ["kind", "n", "modulus", "c"] (sp_gaps_from K A) := by
  refine T.F_gaps_from.ok sc_gaps_from (fun vs H Q E h => ?_) (fun cdv Ar outer s H vs Q E hr h => ?_)
  · obtain ⟨kd, n, M, c, rfl, hk, n1, n2, m1, m2, c1, c2, hpw, k⟩ := h
    rfl
  · obtain ⟨kd, n, M, c, rfl, hk, n1, n2, m1, m2, c1, c2, hpw, k⟩ := h
    have hu := hu_of hr
    have t_q_PART_NAMES := T.q_PART_NAMES
    have t_q_PART_WORDS_slot := T.q_PART_WORDS_slot
    have t_d_PART_WORDS_slot := T.d_PART_WORDS_slot
    have t_q_PART_WORDS_empty := T.q_PART_WORDS_empty
    have t_d_PART_WORDS_empty := T.d_PART_WORDS_empty
    have t_q_PART_WORDS_when := T.q_PART_WORDS_when
    have t_d_PART_WORDS_when := T.d_PART_WORDS_when
    have t_q_MEASURES := T.q_MEASURES
    have t_q_SIGNS := T.q_SIGNS
    have t_q_PLAIN_FULLS := T.q_PLAIN_FULLS
    have t_i_Form := T.i_Form
    have t_kt_Form_Form := T.kt_Form_Form
    have t_kt_int_Form := T.kt_int_Form
    have t_nf_Form_Form := T.nf_Form_Form
    have t_nf_int_Form := T.nf_int_Form
    have t_k_Form := T.k_Form
    have t_k_Scheme := T.k_Scheme
    rcases slot3 hk with rfl | rfl | rfl
    rotate_left 1
    · obtain ⟨w, w1, hw⟩ := hpw rfl
      refine ⟨_, (pss_cons (ps_if (pt_cmpR op_eq (pv 0) pe_str (nomark _)) (pss_one (ps_ret (pe_call (ok_mask_gaps T) (hr.mono (by decide)) (by rfl) T.m_mask_gaps T.F_mask_gaps.kp T.b_mask_gaps .nil pass0 (pa_cons (pv 1) (pa_cons (pv 2) (pa_cons (pv 3) pa_nil)))))) pss_nil)
      (pss_cons ps_never (pss_cons ps_never (pss_one ps_never)))), ?_⟩
      try dsimp only [L2.cxOf, L2.Cx.nox, L2.Cx.wish]
      with_reducible refine Rd.seq (Rd.ifS (Rd.test (Rd.op (Rd.var (by walk_at "vr") (Rd.c (Rd.eqS (by walk_at "vr") (Rd.bl (Rd.iteT (by first | with_unfolding_all rfl | walk_at "bT") (Rd.ret (Rd.call (Rd.cons ?_)))))))))))
      with_reducible refine Rd.var (by walk_at "vr") (Rd.cons (Rd.var (by walk_at "vr") (Rd.cons (Rd.var (by walk_at "vr") (Rd.nil ?_)))))
      refine ⟨_, _, _, w, rfl, (by walk_at "sc"), (by walk_at "sc"), (by walk_at "sc"), (by walk_at "sc"), (by walk_at "sc"), (by walk_at "sc"), w1, hw, fun l1 ws1 H1 S1 nl1 hl1 hg1 => ?_⟩
      rw [gapsM_mask] at k
      exact k _ _ _ (by assumption) (by assumption) (by assumption) (by assumption)
    · skip
      refine ⟨_, (pss_cons (ps_if (pt_cmpR op_eq (pv 0) pe_str (nomark _)) (pss_one ps_never) pss_nil)
      (pss_cons (ps_set (i := 4) sc_gaps_from.nd rfl (Or.inl rfl) (pe_call (ok_rest_spans T) (hr.mono (by decide)) (by rfl) T.m_rest_spans T.F_rest_spans.kp T.b_rest_spans .nil pass0 (pa_cons (pv 1) (pa_cons (pv 2) pa_nil))))
      (pss_cons (ps_if (pt_cmpR op_eq (pv 0) pe_str (nomark _)) (pss_one (ps_set (i := 4) sc_gaps_from.nd rfl (Or.inl rfl) (pe_call (ok_off_spans T) (hr.mono (by decide)) (by rfl) T.m_off_spans T.F_off_spans.kp T.b_off_spans .nil pass0 (pa_cons (pv 1) (pa_cons (pv 2) pa_nil))))) pss_nil)
      (pss_one (ps_ret (pe_lc (own := [("first", 5), ("end", 6), ("gap", 7)]) (g := gTup K 3 (gCons (gName 5) (gCons (gName 6) (gCons (gName 7) gNil)))) rfl sc_gaps_from.nd (pi_list (pv 4)) (blkOk_by (own := [("first", 5), ("end", 6), ("gap", 7)]) (N := ["kind", "n", "modulus", "c", "spans", "first", "end", "gap"]) (sc := defScope s_gaps_from) (by decide +kernel)) (fun _ _ _ _ _ => pg_tup (by rfl) (pgs_cons (pg_name (i := 5) sc_gaps_from.nd rfl (Or.inl rfl)) (pgs_cons (pg_name (i := 6) sc_gaps_from.nd rfl (Or.inl rfl)) (pgs_cons (pg_name (i := 7) sc_gaps_from.nd rfl (Or.inl rfl)) pgs_nil)))) (fun _ _ _ _ _ => pts_nil) (fun _ _ _ _ _ => (pe_tup (pa_cons (pe_call (ok_steps_to_span T) (hr.mono (by decide)) (by rfl) T.m_steps_to_span T.F_steps_to_span.kp T.b_steps_to_span .nil pass0 (pa_cons (pv 5) (pa_cons (pv 6) (pa_cons (pv 2) (pa_cons (pv 3) pa_nil))))) (pa_cons (pv 7) pa_nil)))))))))), ?_⟩
      try dsimp only [L2.cxOf, L2.Cx.nox, L2.Cx.wish]
      with_reducible refine Rd.seq (Rd.ifS (Rd.test (Rd.op (Rd.var (by walk_at "vr") (Rd.c (Rd.eqS (by walk_at "vr") (Rd.bl (Rd.iteF (by first | with_unfolding_all rfl | walk_at "bF") (Rd.next (Rd.seq (Rd.asg ?_)))))))))))
      with_reducible refine Rd.call (Rd.cons (Rd.var (by walk_at "vr") (Rd.cons (Rd.var (by walk_at "vr") (Rd.nil ?_)))))
      refine ⟨_, _, rfl, (by walk_at "sc"), (by walk_at "sc"), (by walk_at "sc"), (by walk_at "sc"), fun l1 ws1 H1 S1 nl1 hl1 ht1 => ?_⟩
      with_reducible refine Rd.name (Rd.seq (Rd.ifS (Rd.test (Rd.op (Rd.var (by walk_at "vr") (Rd.c (Rd.eqS (by walk_at "vr") (Rd.bl (Rd.iteT (by first | with_unfolding_all rfl | walk_at "bT") (Rd.asg (Rd.call ?_)))))))))))
      with_reducible refine Rd.cons (Rd.var (by walk_at "vr") (Rd.cons (Rd.var (by walk_at "vr") (Rd.nil ?_))))
      refine ⟨_, _, rfl, (by walk_at "sc"), (by walk_at "sc"), (by walk_at "sc"), (by walk_at "sc"), fun l2 ws2 H2 S2 nl2 hl2 ht2 => ?_⟩
      with_reducible refine Rd.name (Rd.ret (Rd.lc (Rd.il (Rd.var (by walk_at "vr") ?_))))
      refine ⟨_, rfl, ⟨_, (by walk_at "hpl")⟩, ?_⟩
      intro D0 nD0
      refine' lc_list (fun i H' => Same H2 H' ∧ ∃ acc, H' D0 = some (.lst acc) ∧ Prs H' acc (gapsOf ((offSpans n M).take i) M c)) (⟨by walk_at "frm", [], L2.upd_same, True.intro⟩) (fun i H' _ p => .of (p.1 _ _ hl2)) (fun i x H' hx p => ?lct0_u7) (fun H' p => ?lcd0_u7)
      case lct0_u7 =>
        obtain ⟨S0, acc, hD, hP⟩ := p
        obtain ⟨pt, ⟨tf, te, tg⟩, hti, rfl, hpt⟩ := ht2.at hx
        have hpt0 := S0 _ _ hpt
        have al : acc.length ≤ 3 := by
          rw [hP.len]
          have := off_len n M
          unfold gapsOf
          rw [List.length_map, List.length_take]
          omega
        have D0ne : D0 ≠ pt := L2.ne_of hD hpt0 (by intro z; cases z)
        refine Rd.gtup (by walk_at "hpt") rfl ?_
        with_reducible refine Rd.gcons (Rd.name (Rd.gcons (Rd.name (Rd.gcons (Rd.name (Rd.gnil ?_))))))
        refine ⟨rfl, ?_⟩
        refine Rd.yes (Rd.iteT rfl ?_)
        with_reducible refine Rd.tup (Rd.cons (Rd.call (Rd.cons (Rd.var (by walk_at "vr") (Rd.cons (Rd.var (by walk_at "vr") (Rd.cons (Rd.var (by walk_at "vr") (Rd.cons (Rd.var (by walk_at "vr") (Rd.nil ?_)))))))))))
        refine ⟨_, _, _, _, rfl, (by walk_at "sc"), ?_⟩
        with_reducible refine Rd.cons (Rd.var (by walk_at "vr") (Rd.nil (Rd.laid (by walk_at "ll") ?_)))
        intro p1 np1
        refine ⟨_, (by walk_at "hp"), (by walk_at "sz"), ?_⟩
        refine ⟨by walk_at "frm", _, L2.upd_same, ?_⟩
        have e9 : gapsOf ((offSpans n M).take (i + 1)) M c = gapsOf ((offSpans n M).take i) M c ++ [(stepsTo tf te M c, tg)] := by
          unfold gapsOf
          rw [List.take_add_one, hti, List.map_append]
          rfl
        rw [e9]
        refine Prs.app (by walk_at "hp") (hP.keep fun p xs h => ?_)
        have n1 : p ≠ D0 := L2.ne_of h hD (by intro z; cases z)
        walk_at "hp"
      obtain ⟨S0, acc, hD, hP⟩ := p
      rw [ht2.len, List.take_length] at hP
      rw [gapsM_off] at k
      exact k _ _ _ (by walk_at "frm") (by walk_at "nn") hD hP
    · skip
      refine ⟨_, (pss_cons (ps_if (pt_cmpR op_eq (pv 0) pe_str (nomark _)) (pss_one ps_never) pss_nil)
      (pss_cons (ps_set (i := 4) sc_gaps_from.nd rfl (Or.inl rfl) (pe_call (ok_rest_spans T) (hr.mono (by decide)) (by rfl) T.m_rest_spans T.F_rest_spans.kp T.b_rest_spans .nil pass0 (pa_cons (pv 1) (pa_cons (pv 2) pa_nil))))
      (pss_cons (ps_if (pt_cmpR op_eq (pv 0) pe_str (nomark _)) (pss_one ps_never) pss_nil)
      (pss_one (ps_ret (pe_lc (own := [("first", 5), ("end", 6), ("gap", 7)]) (g := gTup K 3 (gCons (gName 5) (gCons (gName 6) (gCons (gName 7) gNil)))) rfl sc_gaps_from.nd (pi_list (pv 4)) (blkOk_by (own := [("first", 5), ("end", 6), ("gap", 7)]) (N := ["kind", "n", "modulus", "c", "spans", "first", "end", "gap"]) (sc := defScope s_gaps_from) (by decide +kernel)) (fun _ _ _ _ _ => pg_tup (by rfl) (pgs_cons (pg_name (i := 5) sc_gaps_from.nd rfl (Or.inl rfl)) (pgs_cons (pg_name (i := 6) sc_gaps_from.nd rfl (Or.inl rfl)) (pgs_cons (pg_name (i := 7) sc_gaps_from.nd rfl (Or.inl rfl)) pgs_nil)))) (fun _ _ _ _ _ => pts_nil) (fun _ _ _ _ _ => (pe_tup (pa_cons (pe_call (ok_steps_to_span T) (hr.mono (by decide)) (by rfl) T.m_steps_to_span T.F_steps_to_span.kp T.b_steps_to_span .nil pass0 (pa_cons (pv 5) (pa_cons (pv 6) (pa_cons (pv 2) (pa_cons (pv 3) pa_nil))))) (pa_cons (pv 7) pa_nil)))))))))), ?_⟩
      try dsimp only [L2.cxOf, L2.Cx.nox, L2.Cx.wish]
      with_reducible refine Rd.seq (Rd.ifS (Rd.test (Rd.op (Rd.var (by walk_at "vr") (Rd.c (Rd.eqS (by walk_at "vr") (Rd.bl (Rd.iteF (by first | with_unfolding_all rfl | walk_at "bF") (Rd.next (Rd.seq (Rd.asg ?_)))))))))))
      with_reducible refine Rd.call (Rd.cons (Rd.var (by walk_at "vr") (Rd.cons (Rd.var (by walk_at "vr") (Rd.nil ?_)))))
      refine ⟨_, _, rfl, (by walk_at "sc"), (by walk_at "sc"), (by walk_at "sc"), (by walk_at "sc"), fun l1 ws1 H1 S1 nl1 hl1 ht1 => ?_⟩
      with_reducible refine Rd.name (Rd.seq (Rd.ifS (Rd.test (Rd.op (Rd.var (by walk_at "vr") (Rd.c (Rd.eqS (by walk_at "vr") (Rd.bl (Rd.iteF (by first | with_unfolding_all rfl | walk_at "bF") (Rd.next (Rd.ret ?_)))))))))))
      with_reducible refine Rd.lc (Rd.il (Rd.var (by walk_at "vr") ?_))
      refine ⟨_, rfl, ⟨_, (by walk_at "hpl")⟩, ?_⟩
      intro D0 nD0
      refine' lc_list (fun i H' => Same H1 H' ∧ ∃ acc, H' D0 = some (.lst acc) ∧ Prs H' acc (gapsOf ((restSpans n M).take i) M c)) (⟨by walk_at "frm", [], L2.upd_same, True.intro⟩) (fun i H' _ p => .of (p.1 _ _ hl1)) (fun i x H' hx p => ?lct0_u8) (fun H' p => ?lcd0_u8)
      case lct0_u8 =>
        obtain ⟨S0, acc, hD, hP⟩ := p
        obtain ⟨pt, ⟨tf, te, tg⟩, hti, rfl, hpt⟩ := ht1.at hx
        have hpt0 := S0 _ _ hpt
        have al : acc.length ≤ 3 := by
          rw [hP.len]
          have := rest_len n M
          unfold gapsOf
          rw [List.length_map, List.length_take]
          omega
        have D0ne : D0 ≠ pt := L2.ne_of hD hpt0 (by intro z; cases z)
        refine Rd.gtup (by walk_at "hpt") rfl ?_
        with_reducible refine Rd.gcons (Rd.name (Rd.gcons (Rd.name (Rd.gcons (Rd.name (Rd.gnil ?_))))))
        refine ⟨rfl, ?_⟩
        refine Rd.yes (Rd.iteT rfl ?_)
        with_reducible refine Rd.tup (Rd.cons (Rd.call (Rd.cons (Rd.var (by walk_at "vr") (Rd.cons (Rd.var (by walk_at "vr") (Rd.cons (Rd.var (by walk_at "vr") (Rd.cons (Rd.var (by walk_at "vr") (Rd.nil ?_)))))))))))
        refine ⟨_, _, _, _, rfl, (by walk_at "sc"), ?_⟩
        with_reducible refine Rd.cons (Rd.var (by walk_at "vr") (Rd.nil (Rd.laid (by walk_at "ll") ?_)))
        intro p1 np1
        refine ⟨_, (by walk_at "hp"), (by walk_at "sz"), ?_⟩
        refine ⟨by walk_at "frm", _, L2.upd_same, ?_⟩
        have e9 : gapsOf ((restSpans n M).take (i + 1)) M c = gapsOf ((restSpans n M).take i) M c ++ [(stepsTo tf te M c, tg)] := by
          unfold gapsOf
          rw [List.take_add_one, hti, List.map_append]
          rfl
        rw [e9]
        refine Prs.app (by walk_at "hp") (hP.keep fun p xs h => ?_)
        have n1 : p ≠ D0 := L2.ne_of h hD (by intro z; cases z)
        walk_at "hp"
      obtain ⟨S0, acc, hD, hP⟩ := p
      rw [ht1.len, List.take_length] at hP
      rw [gapsM_rest] at k
      exact k _ _ _ (by walk_at "frm") (by walk_at "nn") hD hP
/-! Scheme.wrap -/
theorem sc_Scheme_wrap : FnScope ["self"] ["self"] (defScope s_Scheme_wrap) := ⟨rfl, rfl, rfl, by decide +kernel, rfl, by decide +kernel, by decide +kernel⟩
def sp_Scheme_wrap (P : Program) (w : World) (mg : Str → Option Value) (base : Heap) (K : PySem.W.Frag) (A : Adr) : Sp := fun vs H Q E => vs.length = 1 ∧ ∀ (cdv : Value) (Ar : Around) (outer : List Env) (s : Shared), Room 0 (Ar.deeper (PyProof.Rows.envOfC "Scheme.wrap" (defScope s_Scheme_wrap) s.heap.objs.size A.f_Scheme_wrap cdv)) → ∃ t, PSs (cxOf CX0 P w K mg base ["self"] "Scheme.wrap" (defScope s_Scheme_wrap) A.f_Scheme_wrap cdv Ar outer s H E).nox (defBody s_Scheme_wrap) t ∧ t { nx := fun _ H' => Q .non H', rt := Q } (start ["self"] vs) H
theorem in_Scheme_wrap {vs : List V} {H : Hp} {Q : VK} {E : XK} (h : ∀ (cdv : Value) (Ar : Around) (outer : List Env) (s : Shared), Room 0 (Ar.deeper (PyProof.Rows.envOfC "Scheme.wrap" (defScope s_Scheme_wrap) s.heap.objs.size A.f_Scheme_wrap cdv)) → ∃ t, PSs (cxOf CX0 P w K mg base ["self"] "Scheme.wrap" (defScope s_Scheme_wrap) A.f_Scheme_wrap cdv Ar outer s H E).nox (defBody s_Scheme_wrap) t ∧ t { nx := fun _ H' => Q .non H', rt := Q } (start ["self"] vs) H) (e : vs.length = 1) : sp_Scheme_wrap P w mg base K A vs H Q E := ⟨e, h⟩
theorem ok_Scheme_wrap (T : Txt w K mg A) : FnOk P w K mg base CX0 1 A.f_Scheme_wrap A.d_Scheme_wrap ["self"] (sp_Scheme_wrap P w mg base K A) := T.F_Scheme_wrap.ok sc_Scheme_wrap (fun _ _ _ _ h => h.1) (fun cdv Ar outer s H vs Q E hr h => h.2 cdv Ar outer s hr)
/-! wrap_at -/
theorem sc_wrap_at : FnScope ["wrap", "n"] ["wrap", "n"] (defScope s_wrap_at) := ⟨rfl, rfl, rfl, by decide +kernel, rfl, by decide +kernel, by decide +kernel⟩
abbrev sp_wrap_at (K : PySem.W.Frag) (A : Adr) : Sp := fun vs H Q _ => ∃ (v : V) (t : Wr) (n : Int), vs = [v, .int n] ∧ IsWrap A H v t ∧ WfW t ∧ 1 ≤ n ∧ n ≤ 1000000000000000000000000000000 ∧ Q (.int (modV t n)) H
theorem ok_wrap_at (T : Txt w K mg A) : FnOk P w K mg base CX0 2 A.f_wrap_at A.d_wrap_at ["wrap", "n"] (sp_wrap_at K A) := by
  refine T.F_wrap_at.ok sc_wrap_at (fun vs H Q E h => ?_) (fun cdv Ar outer s H vs Q E hr h => ?_)
  · obtain ⟨v, t, n, rfl, hw, hf, n1, n2, k⟩ := h
    rfl
  · obtain ⟨v, t, n, rfl, hw, hf, n1, n2, k⟩ := h
    have hu := hu_of hr
    have t_q_PART_NAMES := T.q_PART_NAMES
    have t_q_PART_WORDS_slot := T.q_PART_WORDS_slot
    have t_d_PART_WORDS_slot := T.d_PART_WORDS_slot
    have t_q_PART_WORDS_empty := T.q_PART_WORDS_empty
    have t_d_PART_WORDS_empty := T.d_PART_WORDS_empty
    have t_q_PART_WORDS_when := T.q_PART_WORDS_when
    have t_d_PART_WORDS_when := T.d_PART_WORDS_when
    have t_q_MEASURES := T.q_MEASURES
    have t_q_SIGNS := T.q_SIGNS
    have t_q_PLAIN_FULLS := T.q_PLAIN_FULLS
    have t_i_Form := T.i_Form
    have t_kt_Form_Form := T.kt_Form_Form
    have t_kt_int_Form := T.kt_int_Form
    have t_nf_Form_Form := T.nf_Form_Form
    have t_nf_int_Form := T.nf_int_Form
    have t_k_Form := T.k_Form
    have t_k_Scheme := T.k_Scheme
    rcases t with w | ⟨s, b⟩
    · have hw : v = .int w := hw
      subst hw
      have hf : 1 ≤ w ∧ w ≤ 100 := hf
      refine ⟨_, (pss_cons (ps_if (pt_val (pe_callB (Rd.isi (K := K) rfl) (by rfl) T.n_isinstance (by decide +kernel) (pa_cons (pv 0) (pa_cons (pe_glob (v := .ref A.c_Form) rfl T.m_Form rfl) pa_nil)))) (pss_one ps_never) pss_nil)
      (pss_one (ps_ret (pe_op op_shl pe_int (pv 0))))), ?_⟩
      try dsimp only [L2.cxOf, L2.Cx.nox, L2.Cx.wish]
      with_reducible refine Rd.seq (Rd.ifS (Rd.tb (Rd.cB (Rd.cons (Rd.var (by walk_at "vr") (Rd.cons (Rd.c (Rd.nil ?_))))))))
      refine ⟨_, _, _, _, _, rfl, (by walk_at "clsv"), (by walk_at "tyx"), (by walk_at "kit"), ?_⟩
      with_reducible refine Rd.bl (Rd.iteF (by first | with_unfolding_all rfl | walk_at "bF") (Rd.next (Rd.ret (Rd.op (Rd.c (Rd.var (by walk_at "vr") (Rd.iC (by walk_at "scp") ?_)))))))
      exact k
    · obtain ⟨p, dx, rfl, hp⟩ := hw
      have hf : 0 ≤ s ∧ s ≤ 4 ∧ -20 ≤ b ∧ b ≤ 20 := hf
      refine ⟨_, (pss_cons (ps_if (pt_val (pe_callB (Rd.isi (K := K) rfl) (by rfl) T.n_isinstance (by decide +kernel) (pa_cons (pv 0) (pa_cons (pe_glob (v := .ref A.c_Form) rfl T.m_Form rfl) pa_nil)))) (pss_one (ps_ret (pe_call (ok_form_at T) (hr.mono (by decide)) (by rfl) T.m_form_at T.F_form_at.kp T.b_form_at .nil pass0 (pa_cons (pv 0) (pa_cons (pv 1) pa_nil))))) pss_nil)
      (pss_one ps_never)), ?_⟩
      try dsimp only [L2.cxOf, L2.Cx.nox, L2.Cx.wish]
      with_reducible refine Rd.seq (Rd.ifS (Rd.tb (Rd.cB (Rd.cons (Rd.var (by walk_at "vr") (Rd.cons (Rd.c (Rd.nil ?_))))))))
      refine ⟨_, _, _, _, _, rfl, (by walk_at "clsv"), (by walk_at "tyx"), (by walk_at "kit"), ?_⟩
      with_reducible refine Rd.bl (Rd.iteT (by first | with_unfolding_all rfl | walk_at "bT") (Rd.ret (Rd.call (Rd.cons (Rd.var (by walk_at "vr") (Rd.cons (Rd.var (by walk_at "vr") (Rd.nil ?_))))))))
      refine ⟨_, _, _, _, _, rfl, (by walk_at "hp"), (by walk_at "sc"), (by walk_at "sc"), ?_⟩
      exact k
/-! modulus_of -/
theorem sc_modulus_of : FnScope ["scheme", "n", "modulus"] ["scheme", "n"] (defScope s_modulus_of) := ⟨rfl, rfl, rfl, by decide +kernel, rfl, by decide +kernel, by decide +kernel⟩
abbrev sp_modulus_of (K : PySem.W.Frag) (A : Adr) : Sp := fun vs H Q _ => ∃ (p : Addr) (t : Pt) (n : Int), vs = [.ref p, .int n] ∧ IsScheme A H p t ∧ WfW t.wrap ∧ 1 ≤ n ∧ n ≤ 1000000000000000000000000000000 ∧ 1 ≤ modV t.wrap n ∧ Q (.int (modV t.wrap n)) H
theorem ok_modulus_of (T : Txt w K mg A) : FnOk P w K mg base CX0 5 A.f_modulus_of A.d_modulus_of ["scheme", "n"] (sp_modulus_of K A) := by
  refine T.F_modulus_of.ok sc_modulus_of (fun vs H Q E h => ?_) (fun cdv Ar outer s H vs Q E hr h => ?_)
  · obtain ⟨p, t, n, rfl, ⟨dx, d, vw, vf, hp, hd, hw, hfl⟩, hf, n1, n2, hm, k⟩ := h
    rfl
  · obtain ⟨p, t, n, rfl, ⟨dx, d, vw, vf, hp, hd, hw, hfl⟩, hf, n1, n2, hm, k⟩ := h
    have hu := hu_of hr
    have t_q_PART_NAMES := T.q_PART_NAMES
    have t_q_PART_WORDS_slot := T.q_PART_WORDS_slot
    have t_d_PART_WORDS_slot := T.d_PART_WORDS_slot
    have t_q_PART_WORDS_empty := T.q_PART_WORDS_empty
    have t_d_PART_WORDS_empty := T.d_PART_WORDS_empty
    have t_q_PART_WORDS_when := T.q_PART_WORDS_when
    have t_d_PART_WORDS_when := T.d_PART_WORDS_when
    have t_q_MEASURES := T.q_MEASURES
    have t_q_SIGNS := T.q_SIGNS
    have t_q_PLAIN_FULLS := T.q_PLAIN_FULLS
    have t_i_Form := T.i_Form
    have t_kt_Form_Form := T.kt_Form_Form
    have t_kt_int_Form := T.kt_int_Form
    have t_nf_Form_Form := T.nf_Form_Form
    have t_nf_int_Form := T.nf_int_Form
    have t_k_Form := T.k_Form
    have t_k_Scheme := T.k_Scheme
    refine ⟨_, (pss_cons (ps_expr (pe_call (ok_check_size T) (hr.mono (by decide)) (by rfl) T.m_check_size T.F_check_size.kp T.b_check_size .nil pass0 (pa_cons (pv 1) pa_nil)))
      (pss_cons (ps_set (i := 2) sc_modulus_of.nd rfl (Or.inl rfl) (pe_call (ok_wrap_at T) (hr.mono (by decide)) (by rfl) T.m_wrap_at T.F_wrap_at.kp T.b_wrap_at .nil pass0 (pa_cons (pe_prop (pv 0) T.k_Scheme T.R_Scheme_wrap (ok_Scheme_wrap T) (hr.mono (by decide)) T.b_Scheme_wrap .nil pass0 rfl) (pa_cons (pv 1) pa_nil))))
      (pss_cons (ps_if (pt_cmpR op_lt (pv 2) pe_int (nomark _)) (pss_one ps_never) pss_nil)
      (pss_one (ps_ret (pv 2)))))), ?_⟩
    try dsimp only [L2.cxOf, L2.Cx.nox, L2.Cx.wish]
    with_reducible refine Rd.seq (Rd.drop (Rd.call (Rd.cons (Rd.var (by walk_at "vr") (Rd.nil ?_)))))
    refine ⟨_, rfl, (by walk_at "sc"), (by walk_at "sc"), ?_⟩
    with_reducible refine Rd.seq (Rd.asg (Rd.call (Rd.cons (Rd.prop (Rd.var (by walk_at "vr") (⟨_, _, _, rfl, (by walk_at "hp"), ?_⟩))))))
    refine in_Scheme_wrap (fun cdv Ar outer s hr => ?_) rfl
    have hu := hu_of hr
    refine ⟨_, (pss_one (ps_ret (pe_dget hu (pe_fld (pv 0) rfl) pe_str (fun _ _ => rfl)))), ?_⟩
    try dsimp only [L2.cxOf, L2.Cx.nox, L2.Cx.wish]
    with_reducible refine Rd.ret (Rd.dget (Rd.fld (Rd.var (by walk_at "vr") (⟨_, _, _, _, _, rfl, (by walk_at "hp"), T.k_Scheme, T.n_Scheme_parts, (by walk_at "lk"), (Rd.c ?_)⟩))))
    refine Rd.dget2 (by walk_at "hp") (by walk_at "dl") ?_
    with_reducible refine Rd.cons (Rd.var (by walk_at "vr") (Rd.nil ?_))
    refine ⟨_, _, _, rfl, (by assumption), (by assumption), (by walk_at "sc"), (by walk_at "sc"), ?_⟩
    with_reducible refine Rd.name (Rd.seq (Rd.ifS (Rd.test (Rd.op (Rd.var (by walk_at "vr") (Rd.c (Rd.i0 (Rd.bl (Rd.iteF (by walk_at "bF") (Rd.next (Rd.ret ?_)))))))))))
    with_reducible refine Rd.var (by walk_at "vr") ?_
    exact k
/-! Scheme.slot -/
theorem sc_Scheme_slot : FnScope ["self"] ["self"] (defScope s_Scheme_slot) := ⟨rfl, rfl, rfl, by decide +kernel, rfl, by decide +kernel, by decide +kernel⟩
def sp_Scheme_slot (P : Program) (w : World) (mg : Str → Option Value) (base : Heap) (K : PySem.W.Frag) (A : Adr) : Sp := fun vs H Q E => vs.length = 1 ∧ ∀ (cdv : Value) (Ar : Around) (outer : List Env) (s : Shared), Room 0 (Ar.deeper (PyProof.Rows.envOfC "Scheme.slot" (defScope s_Scheme_slot) s.heap.objs.size A.f_Scheme_slot cdv)) → ∃ t, PSs (cxOf CX0 P w K mg base ["self"] "Scheme.slot" (defScope s_Scheme_slot) A.f_Scheme_slot cdv Ar outer s H E).nox (defBody s_Scheme_slot) t ∧ t { nx := fun _ H' => Q .non H', rt := Q } (start ["self"] vs) H
theorem in_Scheme_slot {vs : List V} {H : Hp} {Q : VK} {E : XK} (h : ∀ (cdv : Value) (Ar : Around) (outer : List Env) (s : Shared), Room 0 (Ar.deeper (PyProof.Rows.envOfC "Scheme.slot" (defScope s_Scheme_slot) s.heap.objs.size A.f_Scheme_slot cdv)) → ∃ t, PSs (cxOf CX0 P w K mg base ["self"] "Scheme.slot" (defScope s_Scheme_slot) A.f_Scheme_slot cdv Ar outer s H E).nox (defBody s_Scheme_slot) t ∧ t { nx := fun _ H' => Q .non H', rt := Q } (start ["self"] vs) H) (e : vs.length = 1) : sp_Scheme_slot P w mg base K A vs H Q E := ⟨e, h⟩
theorem ok_Scheme_slot (T : Txt w K mg A) : FnOk P w K mg base CX0 1 A.f_Scheme_slot A.d_Scheme_slot ["self"] (sp_Scheme_slot P w mg base K A) := T.F_Scheme_slot.ok sc_Scheme_slot (fun _ _ _ _ h => h.1) (fun cdv Ar outer s H vs Q E hr h => h.2 cdv Ar outer s hr)
/-! check_counter -/
theorem sc_check_counter : FnScope ["c", "modulus"] ["c", "modulus"] (defScope s_check_counter) := ⟨rfl, rfl, rfl, by decide +kernel, rfl, by decide +kernel, by decide +kernel⟩
def sp_check_counter (P : Program) (w : World) (mg : Str → Option Value) (base : Heap) (K : PySem.W.Frag) (A : Adr) : Sp := fun vs H Q E => vs.length = 2 ∧ ∀ (cdv : Value) (Ar : Around) (outer : List Env) (s : Shared), Room 2 (Ar.deeper (PyProof.Rows.envOfC "check_counter" (defScope s_check_counter) s.heap.objs.size A.f_check_counter cdv)) → ∃ t, PSs (cxOf CX0 P w K mg base ["c", "modulus"] "check_counter" (defScope s_check_counter) A.f_check_counter cdv Ar outer s H E).nox (defBody s_check_counter) t ∧ t { nx := fun _ H' => Q .non H', rt := Q } (start ["c", "modulus"] vs) H
theorem in_check_counter {vs : List V} {H : Hp} {Q : VK} {E : XK} (h : ∀ (cdv : Value) (Ar : Around) (outer : List Env) (s : Shared), Room 2 (Ar.deeper (PyProof.Rows.envOfC "check_counter" (defScope s_check_counter) s.heap.objs.size A.f_check_counter cdv)) → ∃ t, PSs (cxOf CX0 P w K mg base ["c", "modulus"] "check_counter" (defScope s_check_counter) A.f_check_counter cdv Ar outer s H E).nox (defBody s_check_counter) t ∧ t { nx := fun _ H' => Q .non H', rt := Q } (start ["c", "modulus"] vs) H) (e : vs.length = 2) : sp_check_counter P w mg base K A vs H Q E := ⟨e, h⟩
theorem ok_check_counter (T : Txt w K mg A) : FnOk P w K mg base CX0 3 A.f_check_counter A.d_check_counter ["c", "modulus"] (sp_check_counter P w mg base K A) := T.F_check_counter.ok sc_check_counter (fun _ _ _ _ h => h.1) (fun cdv Ar outer s H vs Q E hr h => h.2 cdv Ar outer s hr)
/-! slot_at -/
theorem sc_slot_at : FnScope ["kind", "n", "c"] ["kind", "n", "c"] (defScope s_slot_at) := ⟨rfl, rfl, rfl, by decide +kernel, rfl, by decide +kernel, by decide +kernel⟩
abbrev sp_slot_at (K : PySem.W.Frag) (A : Adr) : Sp := fun vs H Q _ => ∃ (k : Str) (n c : Int), vs = [.str k, .int n, .int c] ∧ k ∈ wSlot ∧ 1 ≤ n ∧ n ≤ 1000000000000000000000000000000 ∧ Q (slotV k n c) H
theorem ok_slot_at (T : Txt w K mg A) : FnOk P w K mg base CX0 1 A.f_slot_at A.d_slot_at ["kind", "n", "c"] (sp_slot_at K A) := by
  refine T.F_slot_at.ok sc_slot_at (fun vs H Q E h => ?_) (fun cdv Ar outer s H vs Q E hr h => ?_)
  · obtain ⟨kd, n, c, rfl, hk, n1, n2, k⟩ := h
    rfl
  · obtain ⟨kd, n, c, rfl, hk, n1, n2, k⟩ := h
    have hu := hu_of hr
    have t_q_PART_NAMES := T.q_PART_NAMES
    have t_q_PART_WORDS_slot := T.q_PART_WORDS_slot
    have t_d_PART_WORDS_slot := T.d_PART_WORDS_slot
    have t_q_PART_WORDS_empty := T.q_PART_WORDS_empty
    have t_d_PART_WORDS_empty := T.d_PART_WORDS_empty
    have t_q_PART_WORDS_when := T.q_PART_WORDS_when
    have t_d_PART_WORDS_when := T.d_PART_WORDS_when
    have t_q_MEASURES := T.q_MEASURES
    have t_q_SIGNS := T.q_SIGNS
    have t_q_PLAIN_FULLS := T.q_PLAIN_FULLS
    have t_i_Form := T.i_Form
    have t_kt_Form_Form := T.kt_Form_Form
    have t_kt_int_Form := T.kt_int_Form
    have t_nf_Form_Form := T.nf_Form_Form
    have t_nf_int_Form := T.nf_int_Form
    have t_k_Form := T.k_Form
    have t_k_Scheme := T.k_Scheme
    rcases slot3 hk with rfl | rfl | rfl
    rotate_left 2
    rcases (by omega : c < n ∨ (¬ c < n ∧ c < 2 * n) ∨ (¬ c < n ∧ ¬ c < 2 * n)) with h1 | ⟨h1, h2⟩ | ⟨h1, h2⟩
    rotate_left 3
    · skip
      refine ⟨_, (pss_cons (ps_if (pt_cmpR op_eq (pv 0) pe_str (nomark _)) (pss_one (ps_ret (pe_op op_mod (pv 2) (pv 1)))) pss_nil)
      (pss_cons ps_never (pss_cons ps_never (pss_cons ps_never (pss_one ps_never))))), ?_⟩
      try dsimp only [L2.cxOf, L2.Cx.nox, L2.Cx.wish]
      with_reducible refine Rd.seq (Rd.ifS (Rd.test (Rd.op (Rd.var (by walk_at "vr") (Rd.c (Rd.eqS (by walk_at "vr") (Rd.bl (Rd.iteT (by first | with_unfolding_all rfl | walk_at "bT") (Rd.ret (Rd.op (Rd.var (by walk_at "vr") ?_)))))))))))
      with_reducible refine Rd.var (by walk_at "vr") (Rd.iC (by walk_at "sc") ?_)
      rw [slotV_rest] at k
      exact k
    · skip
      refine ⟨_, (pss_cons (ps_if (pt_cmpR op_eq (pv 0) pe_str (nomark _)) (pss_one ps_never) pss_nil)
      (pss_cons (ps_if (pt_cmpR op_eq (pv 0) pe_str (nomark _)) (pss_one (ps_ret (pe_op op_and (pv 2) (pe_op op_sub (pv 1) pe_int)))) pss_nil)
      (pss_cons ps_never (pss_cons ps_never (pss_one ps_never))))), ?_⟩
      try dsimp only [L2.cxOf, L2.Cx.nox, L2.Cx.wish]
      with_reducible refine Rd.seq (Rd.ifS (Rd.test (Rd.op (Rd.var (by walk_at "vr") (Rd.c (Rd.eqS (by walk_at "vr") (Rd.bl (Rd.iteF (by first | with_unfolding_all rfl | walk_at "bF") (Rd.next (Rd.seq (Rd.ifS ?_)))))))))))
      with_reducible refine Rd.test (Rd.op (Rd.var (by walk_at "vr") (Rd.c (Rd.eqS (by walk_at "vr") (Rd.bl (Rd.iteT (by first | with_unfolding_all rfl | walk_at "bT") (Rd.ret (Rd.op (Rd.var (by walk_at "vr") (Rd.op (Rd.var (by walk_at "vr") ?_)))))))))))
      with_reducible refine Rd.c (Rd.i0 (Rd.i0 ?_))
      rw [slotV_mask] at k
      exact k
    · skip
      refine ⟨_, (pss_cons (ps_if (pt_cmpR op_eq (pv 0) pe_str (nomark _)) (pss_one ps_never) pss_nil)
      (pss_cons (ps_if (pt_cmpR op_eq (pv 0) pe_str (nomark _)) (pss_one ps_never) pss_nil)
      (pss_cons (ps_if (pt_cmpR op_lt (pv 2) (pv 1) (nomark _)) (pss_one (ps_ret (pv 2))) pss_nil)
      (pss_cons ps_never (pss_one ps_never))))), ?_⟩
      try dsimp only [L2.cxOf, L2.Cx.nox, L2.Cx.wish]
      with_reducible refine Rd.seq (Rd.ifS (Rd.test (Rd.op (Rd.var (by walk_at "vr") (Rd.c (Rd.eqS (by walk_at "vr") (Rd.bl (Rd.iteF (by first | with_unfolding_all rfl | walk_at "bF") (Rd.next (Rd.seq (Rd.ifS ?_)))))))))))
      with_reducible refine Rd.test (Rd.op (Rd.var (by walk_at "vr") (Rd.c (Rd.eqS (by walk_at "vr") (Rd.bl (Rd.iteF (by first | with_unfolding_all rfl | walk_at "bF") (Rd.next (Rd.seq (Rd.ifS (Rd.test (Rd.op ?_)))))))))))
      with_reducible refine Rd.var (by walk_at "vr") (Rd.var (by walk_at "vr") (Rd.i0 (Rd.bl (Rd.iteT (by walk_at "bT") (Rd.ret (Rd.var (by walk_at "vr") ?_))))))
      rw [slotV_off, if_pos h1] at k
      exact k
    · skip
      refine ⟨_, (pss_cons (ps_if (pt_cmpR op_eq (pv 0) pe_str (nomark _)) (pss_one ps_never) pss_nil)
      (pss_cons (ps_if (pt_cmpR op_eq (pv 0) pe_str (nomark _)) (pss_one ps_never) pss_nil)
      (pss_cons (ps_if (pt_cmpR op_lt (pv 2) (pv 1) (nomark _)) (pss_one ps_never) pss_nil)
      (pss_cons (ps_if (pt_cmpR op_lt (pv 2) (pe_op op_mulW pe_int (pv 1)) (nomark _)) (pss_one (ps_ret (pe_op op_sub (pv 2) (pv 1)))) pss_nil)
      (pss_one ps_never))))), ?_⟩
      try dsimp only [L2.cxOf, L2.Cx.nox, L2.Cx.wish]
      with_reducible refine Rd.seq (Rd.ifS (Rd.test (Rd.op (Rd.var (by walk_at "vr") (Rd.c (Rd.eqS (by walk_at "vr") (Rd.bl (Rd.iteF (by first | with_unfolding_all rfl | walk_at "bF") (Rd.next (Rd.seq (Rd.ifS ?_)))))))))))
      with_reducible refine Rd.test (Rd.op (Rd.var (by walk_at "vr") (Rd.c (Rd.eqS (by walk_at "vr") (Rd.bl (Rd.iteF (by first | with_unfolding_all rfl | walk_at "bF") (Rd.next (Rd.seq (Rd.ifS (Rd.test (Rd.op ?_)))))))))))
      with_reducible refine Rd.var (by walk_at "vr") (Rd.var (by walk_at "vr") (Rd.i0 (Rd.bl (Rd.iteF (by walk_at "bF") (Rd.next (Rd.seq (Rd.ifS (Rd.test (Rd.op (Rd.var (by walk_at "vr") (Rd.op ?_)))))))))))
      with_reducible refine Rd.c (Rd.var (by walk_at "vr") (Rd.iC (by walk_at "scm") (Rd.i0 (Rd.bl (Rd.iteT (by walk_at "bT") (Rd.ret (Rd.op (Rd.var (by walk_at "vr") (Rd.var (by walk_at "vr") (Rd.i0 ?_))))))))))
      rw [slotV_off, if_neg h1, if_pos h2] at k
      exact k
    · skip
      refine ⟨_, (pss_cons (ps_if (pt_cmpR op_eq (pv 0) pe_str (nomark _)) (pss_one ps_never) pss_nil)
      (pss_cons (ps_if (pt_cmpR op_eq (pv 0) pe_str (nomark _)) (pss_one ps_never) pss_nil)
      (pss_cons (ps_if (pt_cmpR op_lt (pv 2) (pv 1) (nomark _)) (pss_one ps_never) pss_nil)
      (pss_cons (ps_if (pt_cmpR op_lt (pv 2) (pe_op op_mulW pe_int (pv 1)) (nomark _)) (pss_one ps_never) pss_nil)
      (pss_one (ps_ret pe_non)))))), ?_⟩
      try dsimp only [L2.cxOf, L2.Cx.nox, L2.Cx.wish]
      with_reducible refine Rd.seq (Rd.ifS (Rd.test (Rd.op (Rd.var (by walk_at "vr") (Rd.c (Rd.eqS (by walk_at "vr") (Rd.bl (Rd.iteF (by first | with_unfolding_all rfl | walk_at "bF") (Rd.next (Rd.seq (Rd.ifS ?_)))))))))))
      with_reducible refine Rd.test (Rd.op (Rd.var (by walk_at "vr") (Rd.c (Rd.eqS (by walk_at "vr") (Rd.bl (Rd.iteF (by first | with_unfolding_all rfl | walk_at "bF") (Rd.next (Rd.seq (Rd.ifS (Rd.test (Rd.op ?_)))))))))))
      with_reducible refine Rd.var (by walk_at "vr") (Rd.var (by walk_at "vr") (Rd.i0 (Rd.bl (Rd.iteF (by walk_at "bF") (Rd.next (Rd.seq (Rd.ifS (Rd.test (Rd.op (Rd.var (by walk_at "vr") (Rd.op ?_)))))))))))
      with_reducible refine Rd.c (Rd.var (by walk_at "vr") (Rd.iC (by walk_at "scm") (Rd.i0 (Rd.bl (Rd.iteF (by walk_at "bF") (Rd.next (Rd.ret (Rd.c ?_))))))))
      rw [slotV_off, if_neg h1, if_neg h2] at k
      exact k
/-! gap_of -/
theorem sc_gap_of : FnScope ["scheme", "n", "c", "modulus", "steps", "gap"] ["scheme", "n", "c"] (defScope s_gap_of) := ⟨rfl, rfl, rfl, by decide +kernel, rfl, by decide +kernel, by decide +kernel⟩
abbrev sp_gap_of (K : PySem.W.Frag) (A : Adr) : Sp := fun vs H Q _ => ∃ (p : Addr) (t : Pt) (n c : Int), vs = [.ref p, .int n, .int c] ∧ IsScheme A H p t ∧ Wf t ∧ 1 ≤ n ∧ n ≤ 1000000000000000000000000000000 ∧ 1 ≤ modV t.wrap n ∧ modV t.wrap n ≤ 100000000000000000000000000000000 ∧ (gapsM t.slot n (modV t.wrap n) c).length ≤ 900 ∧ (t.slot = "mask" → ∃ w : Nat, w ≤ 100 ∧ modV t.wrap n = 2 ^ w) ∧ 0 ≤ c ∧ c < modV t.wrap n ∧ ((slotV t.slot n c = .non ∧ ∀ H', Same H H' → Q .non H') ∨ (slotV t.slot n c ≠ .non ∧ GapsOk t.slot n (modV t.wrap n) c ∧ ∀ g H', Same H H' → IsGap t.slot n (modV t.wrap n) c g → Q (.int g) H'))
theorem ok_gap_of (T : Txt w K mg A) : FnOk P w K mg base CX0 6 A.f_gap_of A.d_gap_of ["scheme", "n", "c"] (sp_gap_of K A) := by
  refine T.F_gap_of.ok sc_gap_of (fun vs H Q E h => ?_) (fun cdv Ar outer s H vs Q E hr h => ?_)
  · obtain ⟨p, t, n, c, rfl, hsch, wf, n1, n2, hm, hm2, hlen, hpw, c1, c2, k⟩ := h
    rfl
  · obtain ⟨p, t, n, c, rfl, hsch, wf, n1, n2, hm, hm2, hlen, hpw, c1, c2, k⟩ := h
    have hu := hu_of hr
    have t_q_PART_NAMES := T.q_PART_NAMES
    have t_q_PART_WORDS_slot := T.q_PART_WORDS_slot
    have t_d_PART_WORDS_slot := T.d_PART_WORDS_slot
    have t_q_PART_WORDS_empty := T.q_PART_WORDS_empty
    have t_d_PART_WORDS_empty := T.d_PART_WORDS_empty
    have t_q_PART_WORDS_when := T.q_PART_WORDS_when
    have t_d_PART_WORDS_when := T.d_PART_WORDS_when
    have t_q_MEASURES := T.q_MEASURES
    have t_q_SIGNS := T.q_SIGNS
    have t_q_PLAIN_FULLS := T.q_PLAIN_FULLS
    have t_i_Form := T.i_Form
    have t_kt_Form_Form := T.kt_Form_Form
    have t_kt_int_Form := T.kt_int_Form
    have t_nf_Form_Form := T.nf_Form_Form
    have t_nf_int_Form := T.nf_int_Form
    have t_k_Form := T.k_Form
    have t_k_Scheme := T.k_Scheme
    have wfw := wf.w
    have wfs := wf.s
    have hsch2 := hsch
    obtain ⟨dx, d, vw, vf, hp, hd, hw, hfl⟩ := hsch
    rcases k with ⟨e, k⟩ | ⟨e, hok, k⟩
    · skip
      refine ⟨_, (pss_cons (ps_set (i := 3) sc_gap_of.nd rfl (Or.inl rfl) (pe_call (ok_modulus_of T) (hr.mono (by decide)) (by rfl) T.m_modulus_of T.F_modulus_of.kp T.b_modulus_of .nil pass0 (pa_cons (pv 0) (pa_cons (pv 1) pa_nil))))
      (pss_cons (ps_expr (pe_call (ok_check_counter T) (hr.mono (by decide)) (by rfl) T.m_check_counter T.F_check_counter.kp T.b_check_counter .nil pass0 (pa_cons (pv 2) (pa_cons (pv 3) pa_nil))))
      (pss_cons (ps_if (pt_cmpR op_isN (pe_call (ok_slot_at T) (hr.mono (by decide)) (by rfl) T.m_slot_at T.F_slot_at.kp T.b_slot_at .nil pass0 (pa_cons (pe_prop (pv 0) T.k_Scheme T.R_Scheme_slot (ok_Scheme_slot T) (hr.mono (by decide)) T.b_Scheme_slot .nil pass0 rfl) (pa_cons (pv 1) (pa_cons (pv 2) pa_nil)))) pe_non (nomark _)) (pss_one (ps_ret pe_non)) pss_nil)
      (pss_one ps_never)))), ?_⟩
      try dsimp only [L2.cxOf, L2.Cx.nox, L2.Cx.wish]
      with_reducible refine Rd.seq (Rd.asg (Rd.call (Rd.cons (Rd.var (by walk_at "vr") (Rd.cons (Rd.var (by walk_at "vr") (Rd.nil ?_)))))))
      refine ⟨_, _, _, rfl, (by assumption), (by assumption), (by walk_at "sc"), (by walk_at "sc"), (by assumption), ?_⟩
      with_reducible refine Rd.name (Rd.seq (Rd.drop (Rd.call (Rd.cons (Rd.var (by walk_at "vr") (Rd.cons (Rd.var (by walk_at "vr") (Rd.nil ?_))))))))
      refine in_check_counter (fun cdv Ar outer s hr => ?_) rfl
      have hu := hu_of hr
      refine ⟨_, (pss_one (ps_if (pt_not (pt_val (pe_call (ok_is_whole_from T) (hr.mono (by decide)) (by rfl) T.m_is_whole_from T.F_is_whole_from.kp T.b_is_whole_from .nil pass0 (pa_cons (pv 0) (pa_cons pe_int (pa_cons (pe_op op_sub (pv 1) pe_int) pa_nil)))))) (pss_one ps_never) pss_nil)), ?_⟩
      try dsimp only [L2.cxOf, L2.Cx.nox, L2.Cx.wish]
      with_reducible refine Rd.ifS (Rd.not (Rd.tb (Rd.call (Rd.cons (Rd.var (by walk_at "vr") (Rd.cons (Rd.c (Rd.cons (Rd.op (Rd.var (by walk_at "vr") (Rd.c ?_)))))))))))
      with_reducible refine Rd.i0 (Rd.nil ?_)
      refine ⟨_, _, _, rfl, (by walk_at "sc"), (by walk_at "sc"), ?_⟩
      with_reducible refine Rd.bl (Rd.iteF (by walk_at "bF") (Rd.next (Rd.seq (Rd.ifS (Rd.test (Rd.op (Rd.call (Rd.cons (Rd.prop (Rd.var (by walk_at "vr") (⟨_, _, _, rfl, (by walk_at "hp"), ?_⟩)))))))))))
      refine in_Scheme_slot (fun cdv Ar outer s hr => ?_) rfl
      have hu := hu_of hr
      refine ⟨_, (pss_one (ps_ret (pe_dget hu (pe_fld (pv 0) rfl) pe_str (fun _ _ => rfl)))), ?_⟩
      try dsimp only [L2.cxOf, L2.Cx.nox, L2.Cx.wish]
      with_reducible refine Rd.ret (Rd.dget (Rd.fld (Rd.var (by walk_at "vr") (⟨_, _, _, _, _, rfl, (by walk_at "hp"), T.k_Scheme, T.n_Scheme_parts, (by walk_at "lk"), (Rd.c ?_)⟩))))
      refine Rd.dget2 (by walk_at "hp") (by walk_at "dl") ?_
      with_reducible refine Rd.cons (Rd.var (by walk_at "vr") (Rd.cons (Rd.var (by walk_at "vr") (Rd.nil ?_))))
      refine ⟨_, _, _, rfl, (by assumption), (by walk_at "sc"), (by walk_at "sc"), ?_⟩
      with_reducible refine Rd.c (⟨rfl, (Rd.bl (Rd.iteT (by walk_at "bT") (Rd.ret (Rd.c ?_))))⟩)
      exact k _ (by walk_at "frm")
    · skip
      refine ⟨_, (pss_cons (ps_set (i := 3) sc_gap_of.nd rfl (Or.inl rfl) (pe_call (ok_modulus_of T) (hr.mono (by decide)) (by rfl) T.m_modulus_of T.F_modulus_of.kp T.b_modulus_of .nil pass0 (pa_cons (pv 0) (pa_cons (pv 1) pa_nil))))
      (pss_cons (ps_expr (pe_call (ok_check_counter T) (hr.mono (by decide)) (by rfl) T.m_check_counter T.F_check_counter.kp T.b_check_counter .nil pass0 (pa_cons (pv 2) (pa_cons (pv 3) pa_nil))))
      (pss_cons (ps_if (pt_cmpR op_isN (pe_call (ok_slot_at T) (hr.mono (by decide)) (by rfl) T.m_slot_at T.F_slot_at.kp T.b_slot_at .nil pass0 (pa_cons (pe_prop (pv 0) T.k_Scheme T.R_Scheme_slot (ok_Scheme_slot T) (hr.mono (by decide)) T.b_Scheme_slot .nil pass0 rfl) (pa_cons (pv 1) (pa_cons (pv 2) pa_nil)))) pe_non (nomark _)) (pss_one ps_never) pss_nil)
      (pss_one (ps_ret (pe_callB (cr_min rfl) (by rfl) T.n_min (by decide +kernel) (pa_cons (pe_lc (own := [("steps", 4), ("gap", 5)]) (g := gTup K 2 (gCons (gName 4) (gCons (gName 5) gNil))) rfl sc_gap_of.nd (pi_list (pe_call (ok_gaps_from T) (hr.mono (by decide)) (by rfl) T.m_gaps_from T.F_gaps_from.kp T.b_gaps_from .nil pass0 (pa_cons (pe_prop (pv 0) T.k_Scheme T.R_Scheme_slot (ok_Scheme_slot T) (hr.mono (by decide)) T.b_Scheme_slot .nil pass0 rfl) (pa_cons (pv 1) (pa_cons (pv 3) (pa_cons (pv 2) pa_nil)))))) (blkOk_by (own := [("steps", 4), ("gap", 5)]) (N := ["scheme", "n", "c", "modulus", "steps", "gap"]) (sc := defScope s_gap_of) (by decide +kernel)) (fun _ _ _ _ _ => pg_tup (by rfl) (pgs_cons (pg_name (i := 4) sc_gap_of.nd rfl (Or.inl rfl)) (pgs_cons (pg_name (i := 5) sc_gap_of.nd rfl (Or.inl rfl)) pgs_nil))) (fun _ _ _ _ _ => pts_one (pt_cmpR op_eq (pv 4) pe_int (nomark _))) (fun _ _ _ _ _ => (pe_callTy call_int1 (by rfl) T.n_int (by decide +kernel) (pa_cons (pv 5) pa_nil)))) pa_nil))))))), ?_⟩
      try dsimp only [L2.cxOf, L2.Cx.nox, L2.Cx.wish]
      with_reducible refine Rd.seq (Rd.asg (Rd.call (Rd.cons (Rd.var (by walk_at "vr") (Rd.cons (Rd.var (by walk_at "vr") (Rd.nil ?_)))))))
      refine ⟨_, _, _, rfl, (by assumption), (by assumption), (by walk_at "sc"), (by walk_at "sc"), (by assumption), ?_⟩
      with_reducible refine Rd.name (Rd.seq (Rd.drop (Rd.call (Rd.cons (Rd.var (by walk_at "vr") (Rd.cons (Rd.var (by walk_at "vr") (Rd.nil ?_))))))))
      refine in_check_counter (fun cdv Ar outer s hr => ?_) rfl
      have hu := hu_of hr
      refine ⟨_, (pss_one (ps_if (pt_not (pt_val (pe_call (ok_is_whole_from T) (hr.mono (by decide)) (by rfl) T.m_is_whole_from T.F_is_whole_from.kp T.b_is_whole_from .nil pass0 (pa_cons (pv 0) (pa_cons pe_int (pa_cons (pe_op op_sub (pv 1) pe_int) pa_nil)))))) (pss_one ps_never) pss_nil)), ?_⟩
      try dsimp only [L2.cxOf, L2.Cx.nox, L2.Cx.wish]
      with_reducible refine Rd.ifS (Rd.not (Rd.tb (Rd.call (Rd.cons (Rd.var (by walk_at "vr") (Rd.cons (Rd.c (Rd.cons (Rd.op (Rd.var (by walk_at "vr") (Rd.c ?_)))))))))))
      with_reducible refine Rd.i0 (Rd.nil ?_)
      refine ⟨_, _, _, rfl, (by walk_at "sc"), (by walk_at "sc"), ?_⟩
      with_reducible refine Rd.bl (Rd.iteF (by walk_at "bF") (Rd.next (Rd.seq (Rd.ifS (Rd.test (Rd.op (Rd.call (Rd.cons (Rd.prop (Rd.var (by walk_at "vr") (⟨_, _, _, rfl, (by walk_at "hp"), ?_⟩)))))))))))
      refine in_Scheme_slot (fun cdv Ar outer s hr => ?_) rfl
      have hu := hu_of hr
      refine ⟨_, (pss_one (ps_ret (pe_dget hu (pe_fld (pv 0) rfl) pe_str (fun _ _ => rfl)))), ?_⟩
      try dsimp only [L2.cxOf, L2.Cx.nox, L2.Cx.wish]
      with_reducible refine Rd.ret (Rd.dget (Rd.fld (Rd.var (by walk_at "vr") (⟨_, _, _, _, _, rfl, (by walk_at "hp"), T.k_Scheme, T.n_Scheme_parts, (by walk_at "lk"), (Rd.c ?_)⟩))))
      refine Rd.dget2 (by walk_at "hp") (by walk_at "dl") ?_
      with_reducible refine Rd.cons (Rd.var (by walk_at "vr") (Rd.cons (Rd.var (by walk_at "vr") (Rd.nil ?_))))
      refine ⟨_, _, _, rfl, (by assumption), (by walk_at "sc"), (by walk_at "sc"), ?_⟩
      with_reducible refine Rd.c (⟨rfl, (Rd.bl (Rd.iteF (by walk_at "bF") (Rd.next (Rd.ret (Rd.cB (Rd.cons (Rd.lc (Rd.il (Rd.call (Rd.cons ?_))))))))))⟩)
      with_reducible refine Rd.prop (Rd.var (by walk_at "vr") (⟨_, _, _, rfl, (by walk_at "hp"), ?_⟩))
      refine in_Scheme_slot (fun cdv Ar outer s hr => ?_) rfl
      have hu := hu_of hr
      refine ⟨_, (pss_one (ps_ret (pe_dget hu (pe_fld (pv 0) rfl) pe_str (fun _ _ => rfl)))), ?_⟩
      try dsimp only [L2.cxOf, L2.Cx.nox, L2.Cx.wish]
      with_reducible refine Rd.ret (Rd.dget (Rd.fld (Rd.var (by walk_at "vr") (⟨_, _, _, _, _, rfl, (by walk_at "hp"), T.k_Scheme, T.n_Scheme_parts, (by walk_at "lk"), (Rd.c ?_)⟩))))
      refine Rd.dget2 (by walk_at "hp") (by walk_at "dl") ?_
      with_reducible refine Rd.cons (Rd.var (by walk_at "vr") (Rd.cons (Rd.var (by walk_at "vr") (Rd.cons (Rd.var (by walk_at "vr") (Rd.nil ?_))))))
      refine ⟨_, _, _, _, rfl, (by assumption), (by walk_at "sc"), (by walk_at "sc"), (by walk_at "sc"), (by walk_at "sc"), (by walk_at "sc"), (by walk_at "sc"), (by assumption), fun l4 ws4 H4 S4 nl4 hl4 hg4 => ?_⟩
      refine ⟨_, rfl, ⟨_, (by walk_at "hpl")⟩, ?_⟩
      intro D0 nD0
      refine' lc_list (fun i H' => Same H4 H' ∧ H' D0 = some (.lst ((zeros ((gapsM t.slot n (modV t.wrap n) c).take i)).map V.int))) (⟨by walk_at "frm", L2.upd_same⟩) (fun i H' _ p => .of (p.1 _ _ hl4)) (fun i x H' hx p => ?lct0_u10) (fun H' p => ?lcd0_u10)
      case lct0_u10 =>
        obtain ⟨S0, hD⟩ := p
        obtain ⟨pt, ⟨st, gp⟩, hti, rfl, hpt⟩ := hg4.at hx
        have hpt0 := S0 _ _ hpt
        have D0ne : D0 ≠ pt := L2.ne_of hD hpt0 (by intro z; cases z)
        have al : ((zeros ((gapsM t.slot n (modV t.wrap n) c).take i)).map V.int).length ≤ 900 := by
          rw [List.length_map]
          have z := zeros_len ((gapsM t.slot n (modV t.wrap n) c).take i)
          rw [List.length_take] at z
          omega
        refine Rd.gtup (by walk_at "hpt") rfl ?_
        with_reducible refine Rd.gcons (Rd.name (Rd.gcons (Rd.name (Rd.gnil ?_))))
        refine ⟨rfl, ?_⟩
        with_reducible refine Rd.test (Rd.op (Rd.var (by walk_at "vr") (Rd.c (Rd.eqS (by walk_at "vr") (Rd.bl ?_)))))
        refine Rd.ite (fun h1 => ?_) (fun h1 => ?_)
        · try simp only [decide_eq_true_eq, Bool.not_eq_true', decide_eq_false_iff_not, Bool.not_eq_true, Bool.not_eq_eq_eq_not, Bool.not_true, Bool.not_false] at h1
          with_reducible refine Rd.cB (Rd.cons (Rd.var (by walk_at "vr") (Rd.nil ((.inl ⟨_, rfl, ?_⟩)))))
          refine ⟨_, (by walk_at "hp"), (by walk_at "sz"), ?_⟩
          refine ⟨by walk_at "frm", ?_⟩
          rw [zeros_in hti (by simpa using h1), List.map_append]
          exact L2.upd_same
        · try simp only [decide_eq_true_eq, Bool.not_eq_true', decide_eq_false_iff_not, Bool.not_eq_true, Bool.not_eq_eq_eq_not, Bool.not_true, Bool.not_false, Int.not_lt, Int.not_le, Decidable.not_not] at h1
          refine ⟨by walk_at "frm", ?_⟩
          rw [zeros_out hti (by simpa using h1)]
          exact hD
      obtain ⟨S0, hD⟩ := p
      rw [hg4.len, List.take_length] at hD
      with_reducible refine Rd.nil ?_
      refine ⟨_, _, rfl, .of hD, zeros_pos hok.2, fun mm1 mmm1 lmm1 => ?_⟩
      obtain ⟨x, hx, x0, x2⟩ := zeros_mem mmm1
      rw [← x2]
      exact k _ _ (by walk_at "frm") (hok.1 x hx x0)
/-! is_small_form -/
theorem sc_is_small_form : FnScope ["thing"] ["thing"] (defScope s_is_small_form) := ⟨rfl, rfl, rfl, by decide +kernel, rfl, by decide +kernel, by decide +kernel⟩
def sp_is_small_form (P : Program) (w : World) (mg : Str → Option Value) (base : Heap) (K : PySem.W.Frag) (A : Adr) : Sp := fun vs H Q E => vs.length = 1 ∧ ∀ (cdv : Value) (Ar : Around) (outer : List Env) (s : Shared), Room 0 (Ar.deeper (PyProof.Rows.envOfC "is_small_form" (defScope s_is_small_form) s.heap.objs.size A.f_is_small_form cdv)) → ∃ t, PSs (cxOf CX0 P w K mg base ["thing"] "is_small_form" (defScope s_is_small_form) A.f_is_small_form cdv Ar outer s H E).nox (defBody s_is_small_form) t ∧ t { nx := fun _ H' => Q .non H', rt := Q } (start ["thing"] vs) H
theorem in_is_small_form {vs : List V} {H : Hp} {Q : VK} {E : XK} (h : ∀ (cdv : Value) (Ar : Around) (outer : List Env) (s : Shared), Room 0 (Ar.deeper (PyProof.Rows.envOfC "is_small_form" (defScope s_is_small_form) s.heap.objs.size A.f_is_small_form cdv)) → ∃ t, PSs (cxOf CX0 P w K mg base ["thing"] "is_small_form" (defScope s_is_small_form) A.f_is_small_form cdv Ar outer s H E).nox (defBody s_is_small_form) t ∧ t { nx := fun _ H' => Q .non H', rt := Q } (start ["thing"] vs) H) (e : vs.length = 1) : sp_is_small_form P w mg base K A vs H Q E := ⟨e, h⟩
theorem ok_is_small_form (T : Txt w K mg A) : FnOk P w K mg base CX0 1 A.f_is_small_form A.d_is_small_form ["thing"] (sp_is_small_form P w mg base K A) := T.F_is_small_form.ok sc_is_small_form (fun _ _ _ _ h => h.1) (fun cdv Ar outer s H vs Q E hr h => h.2 cdv Ar outer s hr)
/-! is_full -/
theorem sc_is_full : FnScope ["thing"] ["thing"] (defScope s_is_full) := ⟨rfl, rfl, rfl, by decide +kernel, rfl, by decide +kernel, by decide +kernel⟩
def sp_is_full (P : Program) (w : World) (mg : Str → Option Value) (base : Heap) (K : PySem.W.Frag) (A : Adr) : Sp := fun vs H Q E => vs.length = 1 ∧ ∀ (cdv : Value) (Ar : Around) (outer : List Env) (s : Shared), Room 1 (Ar.deeper (PyProof.Rows.envOfC "is_full" (defScope s_is_full) s.heap.objs.size A.f_is_full cdv)) → ∃ t, PSs (cxOf CX0 P w K mg base ["thing"] "is_full" (defScope s_is_full) A.f_is_full cdv Ar outer s H E).nox (defBody s_is_full) t ∧ t { nx := fun _ H' => Q .non H', rt := Q } (start ["thing"] vs) H
theorem in_is_full {vs : List V} {H : Hp} {Q : VK} {E : XK} (h : ∀ (cdv : Value) (Ar : Around) (outer : List Env) (s : Shared), Room 1 (Ar.deeper (PyProof.Rows.envOfC "is_full" (defScope s_is_full) s.heap.objs.size A.f_is_full cdv)) → ∃ t, PSs (cxOf CX0 P w K mg base ["thing"] "is_full" (defScope s_is_full) A.f_is_full cdv Ar outer s H E).nox (defBody s_is_full) t ∧ t { nx := fun _ H' => Q .non H', rt := Q } (start ["thing"] vs) H) (e : vs.length = 1) : sp_is_full P w mg base K A vs H Q E := ⟨e, h⟩
theorem ok_is_full (T : Txt w K mg A) : FnOk P w K mg base CX0 2 A.f_is_full A.d_is_full ["thing"] (sp_is_full P w mg base K A) := T.F_is_full.ok sc_is_full (fun _ _ _ _ h => h.1) (fun cdv Ar outer s H vs Q E hr h => h.2 cdv Ar outer s hr)
/-! is_wrap -/
theorem sc_is_wrap : FnScope ["thing"] ["thing"] (defScope s_is_wrap) := ⟨rfl, rfl, rfl, by decide +kernel, rfl, by decide +kernel, by decide +kernel⟩
def sp_is_wrap (P : Program) (w : World) (mg : Str → Option Value) (base : Heap) (K : PySem.W.Frag) (A : Adr) : Sp := fun vs H Q E => vs.length = 1 ∧ ∀ (cdv : Value) (Ar : Around) (outer : List Env) (s : Shared), Room 2 (Ar.deeper (PyProof.Rows.envOfC "is_wrap" (defScope s_is_wrap) s.heap.objs.size A.f_is_wrap cdv)) → ∃ t, PSs (cxOf CX0 P w K mg base ["thing"] "is_wrap" (defScope s_is_wrap) A.f_is_wrap cdv Ar outer s H E).nox (defBody s_is_wrap) t ∧ t { nx := fun _ H' => Q .non H', rt := Q } (start ["thing"] vs) H
theorem in_is_wrap {vs : List V} {H : Hp} {Q : VK} {E : XK} (h : ∀ (cdv : Value) (Ar : Around) (outer : List Env) (s : Shared), Room 2 (Ar.deeper (PyProof.Rows.envOfC "is_wrap" (defScope s_is_wrap) s.heap.objs.size A.f_is_wrap cdv)) → ∃ t, PSs (cxOf CX0 P w K mg base ["thing"] "is_wrap" (defScope s_is_wrap) A.f_is_wrap cdv Ar outer s H E).nox (defBody s_is_wrap) t ∧ t { nx := fun _ H' => Q .non H', rt := Q } (start ["thing"] vs) H) (e : vs.length = 1) : sp_is_wrap P w mg base K A vs H Q E := ⟨e, h⟩
theorem ok_is_wrap (T : Txt w K mg A) : FnOk P w K mg base CX0 3 A.f_is_wrap A.d_is_wrap ["thing"] (sp_is_wrap P w mg base K A) := T.F_is_wrap.ok sc_is_wrap (fun _ _ _ _ h => h.1) (fun cdv Ar outer s H vs Q E hr h => h.2 cdv Ar outer s hr)
/-! is_part -/
theorem sc_is_part : FnScope ["part", "thing"] ["part", "thing"] (defScope s_is_part) := ⟨rfl, rfl, rfl, by decide +kernel, rfl, by decide +kernel, by decide +kernel⟩
def sp_is_part (P : Program) (w : World) (mg : Str → Option Value) (base : Heap) (K : PySem.W.Frag) (A : Adr) : Sp := fun vs H Q E => vs.length = 2 ∧ ∀ (cdv : Value) (Ar : Around) (outer : List Env) (s : Shared), Room 3 (Ar.deeper (PyProof.Rows.envOfC "is_part" (defScope s_is_part) s.heap.objs.size A.f_is_part cdv)) → ∃ t, PSs (cxOf CX0 P w K mg base ["part", "thing"] "is_part" (defScope s_is_part) A.f_is_part cdv Ar outer s H E).nox (defBody s_is_part) t ∧ t { nx := fun _ H' => Q .non H', rt := Q } (start ["part", "thing"] vs) H
theorem in_is_part {vs : List V} {H : Hp} {Q : VK} {E : XK} (h : ∀ (cdv : Value) (Ar : Around) (outer : List Env) (s : Shared), Room 3 (Ar.deeper (PyProof.Rows.envOfC "is_part" (defScope s_is_part) s.heap.objs.size A.f_is_part cdv)) → ∃ t, PSs (cxOf CX0 P w K mg base ["part", "thing"] "is_part" (defScope s_is_part) A.f_is_part cdv Ar outer s H E).nox (defBody s_is_part) t ∧ t { nx := fun _ H' => Q .non H', rt := Q } (start ["part", "thing"] vs) H) (e : vs.length = 2) : sp_is_part P w mg base K A vs H Q E := ⟨e, h⟩
theorem ok_is_part (T : Txt w K mg A) : FnOk P w K mg base CX0 4 A.f_is_part A.d_is_part ["part", "thing"] (sp_is_part P w mg base K A) := T.F_is_part.ok sc_is_part (fun _ _ _ _ h => h.1) (fun cdv Ar outer s H vs Q E hr h => h.2 cdv Ar outer s hr)
/-! first_wrong -/
theorem sc_first_wrong : FnScope ["parts", "part"] ["parts"] (defScope s_first_wrong) := ⟨rfl, rfl, rfl, by decide +kernel, rfl, by decide +kernel, by decide +kernel⟩
def sp_first_wrong (P : Program) (w : World) (mg : Str → Option Value) (base : Heap) (K : PySem.W.Frag) (A : Adr) : Sp := fun vs H Q E => vs.length = 1 ∧ ∀ (cdv : Value) (Ar : Around) (outer : List Env) (s : Shared), Room 4 (Ar.deeper (PyProof.Rows.envOfC "first_wrong" (defScope s_first_wrong) s.heap.objs.size A.f_first_wrong cdv)) → ∃ t, PSs (cxOf CX0 P w K mg base ["parts", "part"] "first_wrong" (defScope s_first_wrong) A.f_first_wrong cdv Ar outer s H E).nox (defBody s_first_wrong) t ∧ t { nx := fun _ H' => Q .non H', rt := Q } (start ["parts", "part"] vs) H
theorem in_first_wrong {vs : List V} {H : Hp} {Q : VK} {E : XK} (h : ∀ (cdv : Value) (Ar : Around) (outer : List Env) (s : Shared), Room 4 (Ar.deeper (PyProof.Rows.envOfC "first_wrong" (defScope s_first_wrong) s.heap.objs.size A.f_first_wrong cdv)) → ∃ t, PSs (cxOf CX0 P w K mg base ["parts", "part"] "first_wrong" (defScope s_first_wrong) A.f_first_wrong cdv Ar outer s H E).nox (defBody s_first_wrong) t ∧ t { nx := fun _ H' => Q .non H', rt := Q } (start ["parts", "part"] vs) H) (e : vs.length = 1) : sp_first_wrong P w mg base K A vs H Q E := ⟨e, h⟩
theorem ok_first_wrong (T : Txt w K mg A) : FnOk P w K mg base CX0 5 A.f_first_wrong A.d_first_wrong ["parts"] (sp_first_wrong P w mg base K A) := T.F_first_wrong.ok sc_first_wrong (fun _ _ _ _ h => h.1) (fun cdv Ar outer s H vs Q E hr h => h.2 cdv Ar outer s hr)
/-! Scheme.__init__ -/
theorem sc_Schemeu__initu_ : FnScope ["self", "wrap", "slot", "empty", "full", "when", "parts", "wrong"] ["self", "wrap", "slot", "empty", "full", "when"] (defScope s_Schemeu__initu_) := ⟨rfl, rfl, rfl, by decide +kernel, rfl, by decide +kernel, by decide +kernel⟩
abbrev sp_Schemeu__initu_ (K : PySem.W.Frag) (A : Adr) : Sp := fun vs H Q _ => ∃ (p dx : Addr) (vw vf : V) (t : Pt), vs = [.ref p, vw, .str t.slot, .str t.empty, vf, .str t.wen] ∧ H p = some (.ins A.c_Scheme dx []) ∧ IsWrap A H vw t.wrap ∧ IsFull A H vf t.full ∧ Wf t ∧ ∀ (d : Addr) (H' : Hp), Frm p H H' → H d = none → H' p = some (.ins A.c_Scheme dx (fS d)) → H' d = some (.dK (kvP vw t.slot t.empty vf t.wen)) → Q .non H'
theorem ok_Schemeu__initu_ (T : Txt w K mg A) : FnOk P w K mg base CX0 6 A.f_Schemeu__initu_ A.d_Schemeu__initu_ ["self", "wrap", "slot", "empty", "full", "when"] (sp_Schemeu__initu_ K A) := by
  refine T.F_Schemeu__initu_.ok sc_Schemeu__initu_ (fun vs H Q E h => ?_) (fun cdv Ar outer s H vs Q E hr h => ?_)
  · obtain ⟨p, dx, vw, vf, ⟨wr, sl, em, fl, wn⟩, rfl, hp, hw, hf, hwf, k⟩ := h
    rfl
  · obtain ⟨p, dx, vw, vf, ⟨wr, sl, em, fl, wn⟩, rfl, hp, hw, hf, hwf, k⟩ := h
    have hu := hu_of hr
    have t_q_PART_NAMES := T.q_PART_NAMES
    have t_q_PART_WORDS_slot := T.q_PART_WORDS_slot
    have t_d_PART_WORDS_slot := T.d_PART_WORDS_slot
    have t_q_PART_WORDS_empty := T.q_PART_WORDS_empty
    have t_d_PART_WORDS_empty := T.d_PART_WORDS_empty
    have t_q_PART_WORDS_when := T.q_PART_WORDS_when
    have t_d_PART_WORDS_when := T.d_PART_WORDS_when
    have t_q_MEASURES := T.q_MEASURES
    have t_q_SIGNS := T.q_SIGNS
    have t_q_PLAIN_FULLS := T.q_PLAIN_FULLS
    have t_i_Form := T.i_Form
    have t_kt_Form_Form := T.kt_Form_Form
    have t_kt_int_Form := T.kt_int_Form
    have t_nf_Form_Form := T.nf_Form_Form
    have t_nf_int_Form := T.nf_int_Form
    have t_k_Form := T.k_Form
    have t_k_Scheme := T.k_Scheme
    obtain ⟨w1, w2, w3, w4, w5, w6⟩ := hwf
    dsimp only at w1 w2 w3 w4 w5 w6 hw hf k
    rcases wr with w | ⟨s, b⟩ <;> rcases fl with kk | ⟨kk, g, s2, b2⟩ <;> rcases Decidable.em (sl = "mask") with hm | hm
    any_goals (first | exact absurd hm (w6 _ _ rfl) | skip)
    · have hw : vw = .int w := hw
      subst hw
      have w1 : 1 ≤ w ∧ w ≤ 100 := w1
      obtain ⟨pf, rfl, hpf⟩ := hf
      have i4 : inV (.str kk) [.str "next", .str "note"] = true := Rd.inW (ws := ["next", "note"]) w4
      have n4 : (!inV (.str kk) [.str "next", .str "note"]) = false := Rd.notF i4
      have i2 : (!inV (.str sl) [.str "rest", .str "off", .str "mask"]) = false := Rd.notF (Rd.inW (ws := ["rest", "off", "mask"]) w2)
      have i3 : (!inV (.str em) [.str "same", .str "count", .str "note"]) = false := Rd.notF (Rd.inW (ws := ["same", "count", "note"]) w3)
      have i6 : (!inV (.str wn) [.str "refuse", .str "drop", .str "over"]) = false := Rd.notF (Rd.inW (ws := ["refuse", "drop", "over"]) w5)
      have m1 : decide (V.str sl = V.str "mask") = true := decide_eq_true (by rw [hm])
      refine ⟨_, (pss_cons (ps_set (i := 6) sc_Schemeu__initu_.nd rfl (Or.inl rfl) (pe_disp (pps_cons pe_str (pv 1) (pps_cons pe_str (pv 2) (pps_cons pe_str (pv 3) (pps_cons pe_str (pv 4) (pps_cons pe_str (pv 5) pps_nil))))) rfl rfl (by simp) (by decide)))
      (pss_cons (ps_set (i := 7) sc_Schemeu__initu_.nd rfl (Or.inl rfl) (pe_call (ok_first_wrong T) (hr.mono (by decide)) (by rfl) T.m_first_wrong T.F_first_wrong.kp T.b_first_wrong .nil pass0 (pa_cons (pv 6) pa_nil)))
      (pss_cons (ps_if (pt_cmpR op_notN (pv 7) pe_non (nomark _)) (pss_one ps_never) pss_nil)
      (pss_one (ps_fld (pv 0) (pv 6) rfl))))), ?_⟩
      try dsimp only [L2.cxOf, L2.Cx.nox, L2.Cx.wish]
      with_reducible refine Rd.seq (Rd.asg ?_)
      refine Rd.disp5 (fun _ _ h => Rd.var (by walk_at "vr") h) (fun _ _ h => Rd.var (by walk_at "vr") h) (fun _ _ h => Rd.var (by walk_at "vr") h) (fun _ _ h => Rd.var (by walk_at "vr") h) (fun _ _ h => Rd.var (by walk_at "vr") h) ?_
      intro pd241_16 npd241_16
      rw [kvP_merge]
      with_reducible refine Rd.name (Rd.seq (Rd.asg (Rd.call (Rd.cons (Rd.var (by walk_at "vr") (Rd.nil ?_))))))
      refine in_first_wrong (fun cdv Ar outer s hr => ?_) rfl
      have hu := hu_of hr
      refine ⟨_, (pss_cons (ps_for PassesOwn.never rfl (pi_tup (pe_glob (v := .ref A.t_PART_NAMES) rfl T.m_PART_NAMES rfl)) (pg_name (i := 1) sc_first_wrong.nd rfl (Or.inl rfl)) (pss_cons (ps_if (pt_not (pt_val (pe_call (ok_is_part T) (hr.mono (by decide)) (by rfl) T.m_is_part T.F_is_part.kp T.b_is_part .nil pass0 (pa_cons (pv 1) (pa_cons (pe_dget hu (pv 0) (pv 1) (fun _ _ => rfl)) pa_nil))))) (pss_one ps_never) pss_nil) (pss_one (ps_if (PW.pt (pw_and (pt_cmpR op_eq (pv 1) pe_str (nomark _)) (pw_and (pt_cmpR op_eq (pe_dget hu (pv 0) pe_str (fun _ _ => rfl)) pe_str (nomark _)) (pw_and1 (pt_val (pe_callB (Rd.isi (K := K) rfl) (by rfl) T.n_isinstance (by decide +kernel) (pa_cons (pe_dget hu (pv 0) pe_str (fun _ _ => rfl)) (pa_cons (pe_glob (v := .ref A.c_Form) rfl T.m_Form rfl) pa_nil)))))))) (pss_one ps_never) pss_nil))))
            (pss_one (ps_ret pe_non))), ?_⟩
      try dsimp only [L2.cxOf, L2.Cx.nox, L2.Cx.wish]
      with_reducible refine Rd.seq (Rd.fr (Rd.it (Rd.c (⟨_, rfl, ?_⟩))))
      refine Rd.unrollT (by walk_at "hpt") ?_
      refine Rd.unrTCons ?_
      with_reducible refine Rd.name ?_
      dsimp only [List.set]
      with_reducible refine Rd.seq (Rd.ifS (Rd.not (Rd.tb (Rd.call (Rd.cons (Rd.var (by walk_at "vr") (Rd.cons (Rd.dget (Rd.var (by walk_at "vr") (Rd.var (by walk_at "vr") ?_))))))))))
      refine Rd.dget2 (by walk_at "hp") (by walk_at "dl") ?_
      with_reducible refine Rd.nil ?_
      refine in_is_part (fun cdv Ar outer s hr => ?_) rfl
      have hu := hu_of hr
      refine ⟨_, (pss_cons (ps_if (pt_cmpR op_eq (pv 0) pe_str (nomark _)) (pss_one (ps_ret (pe_call (ok_is_wrap T) (hr.mono (by decide)) (by rfl) T.m_is_wrap T.F_is_wrap.kp T.b_is_wrap .nil pass0 (pa_cons (pv 1) pa_nil)))) pss_nil)
            (pss_cons ps_never (pss_one ps_never))), ?_⟩
      try dsimp only [L2.cxOf, L2.Cx.nox, L2.Cx.wish]
      with_reducible refine Rd.seq (Rd.ifS (Rd.test (Rd.op (Rd.var (by walk_at "vr") (Rd.c (Rd.eqS (by walk_at "vr") (Rd.bl (Rd.iteT (by first | with_unfolding_all rfl | walk_at "bT") (Rd.ret (Rd.call (Rd.cons ?_)))))))))))
      with_reducible refine Rd.var (by walk_at "vr") (Rd.nil ?_)
      refine in_is_wrap (fun cdv Ar outer s hr => ?_) rfl
      have hu := hu_of hr
      refine ⟨_, (pss_one (ps_ret (pe_or (pe_call (ok_is_small_form T) (hr.mono (by decide)) (by rfl) T.m_is_small_form T.F_is_small_form.kp T.b_is_small_form .nil pass0 (pa_cons (pv 0) pa_nil)) (pe_one (pe_call (ok_is_whole_from T) (hr.mono (by decide)) (by rfl) T.m_is_whole_from T.F_is_whole_from.kp T.b_is_whole_from .nil pass0 (pa_cons (pv 0) (pa_cons pe_int (pa_cons (pe_glob (v := .int (100)) rfl T.m_GREATEST_WIDTH ⟨_, rfl⟩) pa_nil)))))))), ?_⟩
      try dsimp only [L2.cxOf, L2.Cx.nox, L2.Cx.wish]
      with_reducible refine Rd.ret (Rd.orV (Rd.call (Rd.cons (Rd.var (by walk_at "vr") (Rd.nil ?_)))))
      refine in_is_small_form (fun cdv Ar outer s hr => ?_) rfl
      have hu := hu_of hr
      refine ⟨_, (pss_cons (ps_if (pt_not (pt_val (pe_callB (Rd.isi (K := K) rfl) (by rfl) T.n_isinstance (by decide +kernel) (pa_cons (pv 0) (pa_cons (pe_glob (v := .ref A.c_Form) rfl T.m_Form rfl) pa_nil))))) (pss_one (ps_ret pe_bl)) pss_nil)
            (pss_one ps_never)), ?_⟩
      try dsimp only [L2.cxOf, L2.Cx.nox, L2.Cx.wish]
      with_reducible refine Rd.seq (Rd.ifS (Rd.not (Rd.tb (Rd.cB (Rd.cons (Rd.var (by walk_at "vr") (Rd.cons (Rd.c (Rd.nil ?_)))))))))
      refine ⟨_, _, _, _, _, rfl, (by walk_at "clsv"), (by walk_at "tyx"), (by walk_at "kit"), ?_⟩
      with_reducible refine Rd.bl (Rd.iteT (by first | with_unfolding_all rfl | walk_at "bT") (Rd.ret (Rd.c (Rd.bl (Rd.iteF (by first | with_unfolding_all rfl | walk_at "bF") (Rd.call (Rd.cons (Rd.var (by walk_at "vr") (Rd.cons (Rd.c (Rd.cons ?_)))))))))))
      with_reducible refine Rd.c (Rd.nil ?_)
      refine ⟨_, _, _, rfl, (by walk_at "sc"), (by walk_at "sc"), ?_⟩
      with_reducible refine Rd.bl (Rd.iteF (by walk_at "bF") (Rd.next (Rd.ifS (Rd.and (Rd.test (Rd.op (Rd.var (by walk_at "vr") (Rd.c (Rd.eqS (by walk_at "vr") (Rd.bl (Rd.iteF (by first | with_unfolding_all rfl | walk_at "bF") ?_)))))))))))
      with_reducible refine Rd.iteF rfl (Rd.next ?_)
      refine ⟨by walk_at "hpt", ?_⟩
      refine Rd.unrTCons ?_
      with_reducible refine Rd.name ?_
      dsimp only [List.set]
      with_reducible refine Rd.seq (Rd.ifS (Rd.not (Rd.tb (Rd.call (Rd.cons (Rd.var (by walk_at "vr") (Rd.cons (Rd.dget (Rd.var (by walk_at "vr") (Rd.var (by walk_at "vr") ?_))))))))))
      refine Rd.dget2 (by walk_at "hp") (by walk_at "dl") ?_
      with_reducible refine Rd.nil ?_
      refine in_is_part (fun cdv Ar outer s hr => ?_) rfl
      have hu := hu_of hr
      refine ⟨_, (pss_cons (ps_if (pt_cmpR op_eq (pv 0) pe_str (nomark _)) (pss_one ps_never) pss_nil)
            (pss_cons (ps_if (pt_cmpR op_eq (pv 0) pe_str (nomark _)) (pss_one ps_never) pss_nil)
            (pss_one (ps_ret (pe_call (ok_is_word_of T) (hr.mono (by decide)) (by rfl) T.m_is_word_of T.F_is_word_of.kp T.b_is_word_of .nil pass0 (pa_cons (pv 1) (pa_cons (pe_ix ix_kdict (pe_glob (v := .ref A.t_PART_WORDS) rfl T.m_PART_WORDS rfl) (pv 0) (fun _ _ => rfl)) pa_nil))))))), ?_⟩
      try dsimp only [L2.cxOf, L2.Cx.nox, L2.Cx.wish]
      with_reducible refine Rd.seq (Rd.ifS (Rd.test (Rd.op (Rd.var (by walk_at "vr") (Rd.c (Rd.eqS (by walk_at "vr") (Rd.bl (Rd.iteF (by first | with_unfolding_all rfl | walk_at "bF") (Rd.next (Rd.seq (Rd.ifS ?_)))))))))))
      with_reducible refine Rd.test (Rd.op (Rd.var (by walk_at "vr") (Rd.c (Rd.eqS (by walk_at "vr") (Rd.bl (Rd.iteF (by first | with_unfolding_all rfl | walk_at "bF") (Rd.next (Rd.ret (Rd.call (Rd.cons (Rd.var (by walk_at "vr") ?_)))))))))))
      with_reducible refine Rd.cons (Rd.op (Rd.c (Rd.var (by walk_at "vr") ?_)))
      refine ⟨_, _, _, rfl, rfl, T.d_PART_WORDS_slot, ?_⟩
      with_reducible refine Rd.nil ?_
      refine in_is_word_of (fun cdv Ar outer s hr => ?_) rfl
      have hu := hu_of hr
      refine ⟨_, (pss_one (ps_ret (pe_and (pe_callB (Rd.isi (K := K) rfl) (by rfl) T.n_isinstance (by decide +kernel) (pa_cons (pv 0) (pa_cons (pe_bltn (v := .ty "str") (u := .type "str") (by rfl) T.n_str (by decide +kernel) rfl) pa_nil))) (pe_one (pe_cmpR op_in_seq (pv 0) (pv 1) (by with_unfolding_all rfl)))))), ?_⟩
      try dsimp only [L2.cxOf, L2.Cx.nox, L2.Cx.wish]
      with_reducible refine Rd.ret (Rd.andV (Rd.cB (Rd.cons (Rd.var (by walk_at "vr") (Rd.cons (Rd.c (Rd.nil ?_)))))))
      refine ⟨_, _, _, _, _, rfl, (by walk_at "clsv"), (by walk_at "tyx"), (by walk_at "kit"), ?_⟩
      with_reducible refine Rd.bl (Rd.iteT (by first | with_unfolding_all rfl | walk_at "bT") (Rd.op (Rd.var (by walk_at "vr") (Rd.var (by walk_at "vr") ?_))))
      refine Rd.inT (.inr (by walk_at "hpt")) rfl (by walk_at "flt") ?_
      with_reducible refine Rd.bl (Rd.iteF (by walk_at "bF") (Rd.next (Rd.ifS (Rd.and (Rd.test (Rd.op (Rd.var (by walk_at "vr") (Rd.c (Rd.eqS (by walk_at "vr") (Rd.bl (Rd.iteT (by first | with_unfolding_all rfl | walk_at "bT") ?_)))))))))))
      with_reducible refine Rd.and (Rd.test (Rd.op (Rd.dget (Rd.var (by walk_at "vr") (Rd.c ?_)))))
      refine Rd.dget2 (by walk_at "hp") (by walk_at "dl") ?_
      with_reducible refine Rd.c (Rd.eqS (by walk_at "vr") (Rd.bl (Rd.iteT (by walk_at "bT") (Rd.tb (Rd.cB (Rd.cons (Rd.dget (Rd.var (by walk_at "vr") (Rd.c ?_)))))))))
      refine Rd.dget2 (by walk_at "hp") (by walk_at "dl") ?_
      with_reducible refine Rd.cons (Rd.c (Rd.nil ?_))
      refine ⟨_, _, _, _, _, rfl, (by walk_at "clsv"), (by walk_at "tyx"), (by walk_at "kit"), ?_⟩
      with_reducible refine Rd.bl (Rd.iteF (by first | with_unfolding_all rfl | walk_at "bF") (Rd.next ?_))
      refine ⟨by walk_at "hpt", ?_⟩
      refine Rd.unrTCons ?_
      with_reducible refine Rd.name ?_
      dsimp only [List.set]
      with_reducible refine Rd.seq (Rd.ifS (Rd.not (Rd.tb (Rd.call (Rd.cons (Rd.var (by walk_at "vr") (Rd.cons (Rd.dget (Rd.var (by walk_at "vr") (Rd.var (by walk_at "vr") ?_))))))))))
      refine Rd.dget2 (by walk_at "hp") (by walk_at "dl") ?_
      with_reducible refine Rd.nil ?_
      refine in_is_part (fun cdv Ar outer s hr => ?_) rfl
      have hu := hu_of hr
      refine ⟨_, (pss_cons (ps_if (pt_cmpR op_eq (pv 0) pe_str (nomark _)) (pss_one ps_never) pss_nil)
            (pss_cons (ps_if (pt_cmpR op_eq (pv 0) pe_str (nomark _)) (pss_one ps_never) pss_nil)
            (pss_one (ps_ret (pe_call (ok_is_word_of T) (hr.mono (by decide)) (by rfl) T.m_is_word_of T.F_is_word_of.kp T.b_is_word_of .nil pass0 (pa_cons (pv 1) (pa_cons (pe_ix ix_kdict (pe_glob (v := .ref A.t_PART_WORDS) rfl T.m_PART_WORDS rfl) (pv 0) (fun _ _ => rfl)) pa_nil))))))), ?_⟩
      try dsimp only [L2.cxOf, L2.Cx.nox, L2.Cx.wish]
      with_reducible refine Rd.seq (Rd.ifS (Rd.test (Rd.op (Rd.var (by walk_at "vr") (Rd.c (Rd.eqS (by walk_at "vr") (Rd.bl (Rd.iteF (by first | with_unfolding_all rfl | walk_at "bF") (Rd.next (Rd.seq (Rd.ifS ?_)))))))))))
      with_reducible refine Rd.test (Rd.op (Rd.var (by walk_at "vr") (Rd.c (Rd.eqS (by walk_at "vr") (Rd.bl (Rd.iteF (by first | with_unfolding_all rfl | walk_at "bF") (Rd.next (Rd.ret (Rd.call (Rd.cons (Rd.var (by walk_at "vr") ?_)))))))))))
      with_reducible refine Rd.cons (Rd.op (Rd.c (Rd.var (by walk_at "vr") ?_)))
      refine ⟨_, _, _, rfl, rfl, T.d_PART_WORDS_empty, ?_⟩
      with_reducible refine Rd.nil ?_
      refine in_is_word_of (fun cdv Ar outer s hr => ?_) rfl
      have hu := hu_of hr
      refine ⟨_, (pss_one (ps_ret (pe_and (pe_callB (Rd.isi (K := K) rfl) (by rfl) T.n_isinstance (by decide +kernel) (pa_cons (pv 0) (pa_cons (pe_bltn (v := .ty "str") (u := .type "str") (by rfl) T.n_str (by decide +kernel) rfl) pa_nil))) (pe_one (pe_cmpR op_in_seq (pv 0) (pv 1) (by with_unfolding_all rfl)))))), ?_⟩
      try dsimp only [L2.cxOf, L2.Cx.nox, L2.Cx.wish]
      with_reducible refine Rd.ret (Rd.andV (Rd.cB (Rd.cons (Rd.var (by walk_at "vr") (Rd.cons (Rd.c (Rd.nil ?_)))))))
      refine ⟨_, _, _, _, _, rfl, (by walk_at "clsv"), (by walk_at "tyx"), (by walk_at "kit"), ?_⟩
      with_reducible refine Rd.bl (Rd.iteT (by first | with_unfolding_all rfl | walk_at "bT") (Rd.op (Rd.var (by walk_at "vr") (Rd.var (by walk_at "vr") ?_))))
      refine Rd.inT (.inr (by walk_at "hpt")) rfl (by walk_at "flt") ?_
      with_reducible refine Rd.bl (Rd.iteF (by walk_at "bF") (Rd.next (Rd.ifS (Rd.and (Rd.test (Rd.op (Rd.var (by walk_at "vr") (Rd.c (Rd.eqS (by walk_at "vr") (Rd.bl (Rd.iteF (by first | with_unfolding_all rfl | walk_at "bF") ?_)))))))))))
      with_reducible refine Rd.iteF rfl (Rd.next ?_)
      refine ⟨by walk_at "hpt", ?_⟩
      refine Rd.unrTCons ?_
      with_reducible refine Rd.name ?_
      dsimp only [List.set]
      with_reducible refine Rd.seq (Rd.ifS (Rd.not (Rd.tb (Rd.call (Rd.cons (Rd.var (by walk_at "vr") (Rd.cons (Rd.dget (Rd.var (by walk_at "vr") (Rd.var (by walk_at "vr") ?_))))))))))
      refine Rd.dget2 (by walk_at "hp") (by walk_at "dl") ?_
      with_reducible refine Rd.nil ?_
      refine in_is_part (fun cdv Ar outer s hr => ?_) rfl
      have hu := hu_of hr
      refine ⟨_, (pss_cons (ps_if (pt_cmpR op_eq (pv 0) pe_str (nomark _)) (pss_one ps_never) pss_nil)
            (pss_cons (ps_if (pt_cmpR op_eq (pv 0) pe_str (nomark _)) (pss_one (ps_ret (pe_call (ok_is_full T) (hr.mono (by decide)) (by rfl) T.m_is_full T.F_is_full.kp T.b_is_full .nil pass0 (pa_cons (pv 1) pa_nil)))) pss_nil)
            (pss_one ps_never))), ?_⟩
      try dsimp only [L2.cxOf, L2.Cx.nox, L2.Cx.wish]
      with_reducible refine Rd.seq (Rd.ifS (Rd.test (Rd.op (Rd.var (by walk_at "vr") (Rd.c (Rd.eqS (by walk_at "vr") (Rd.bl (Rd.iteF (by first | with_unfolding_all rfl | walk_at "bF") (Rd.next (Rd.seq (Rd.ifS ?_)))))))))))
      with_reducible refine Rd.test (Rd.op (Rd.var (by walk_at "vr") (Rd.c (Rd.eqS (by walk_at "vr") (Rd.bl (Rd.iteT (by first | with_unfolding_all rfl | walk_at "bT") (Rd.ret (Rd.call (Rd.cons (Rd.var (by walk_at "vr") (Rd.nil ?_)))))))))))
      refine in_is_full (fun cdv Ar outer s hr => ?_) rfl
      have hu := hu_of hr
      refine ⟨_, (pss_cons (ps_if (pt_not (pt_val (pe_callB (Rd.isi (K := K) rfl) (by rfl) T.n_isinstance (by decide +kernel) (pa_cons (pv 0) (pa_cons (pe_bltn (v := .ty "tuple") (u := .type "tuple") (by rfl) T.n_tuple (by decide +kernel) rfl) pa_nil))))) (pss_one ps_never) pss_nil)
            (pss_cons (ps_if (pt_cmpR op_eq (pe_callB call_len_seq (by rfl) T.n_len PySem.boot_len (pa_cons (pv 0) pa_nil)) pe_int (nomark _)) (pss_one (ps_ret (pe_call (ok_is_word_of T) (hr.mono (by decide)) (by rfl) T.m_is_word_of T.F_is_word_of.kp T.b_is_word_of .nil pass0 (pa_cons (pe_ix ix_tup (pv 0) pe_int (fun _ _ => rfl)) (pa_cons (pe_glob (v := .ref A.t_PLAIN_FULLS) rfl T.m_PLAIN_FULLS rfl) pa_nil))))) pss_nil)
            (pss_cons ps_never (pss_one ps_never)))), ?_⟩
      try dsimp only [L2.cxOf, L2.Cx.nox, L2.Cx.wish]
      with_reducible refine Rd.seq (Rd.ifS (Rd.not (Rd.tb (Rd.cB (Rd.cons (Rd.var (by walk_at "vr") (Rd.cons (Rd.c (Rd.nil ?_)))))))))
      refine ⟨_, _, _, _, _, rfl, (by walk_at "clsv"), (by walk_at "tyx"), (by walk_at "kit"), ?_⟩
      with_reducible refine Rd.bl (Rd.iteF (by first | with_unfolding_all rfl | walk_at "bF") (Rd.next (Rd.seq (Rd.ifS (Rd.test (Rd.op (Rd.cB (Rd.cons (Rd.var (by walk_at "vr") (Rd.nil (⟨_, _, rfl, (by walk_at "hpq"), ?_⟩)))))))))))
      with_reducible refine Rd.c (Rd.eqS (by walk_at "vr") (Rd.bl (Rd.iteT (by first | with_unfolding_all rfl | walk_at "bT") (Rd.ret (Rd.call (Rd.cons (Rd.op (Rd.var (by walk_at "vr") (Rd.c (Rd.ixT (by walk_at "hpt") (by walk_at "vr") (Rd.cons ?_)))))))))))
      with_reducible refine Rd.c (Rd.nil ?_)
      refine in_is_word_of (fun cdv Ar outer s hr => ?_) rfl
      have hu := hu_of hr
      refine ⟨_, (pss_one (ps_ret (pe_and (pe_callB (Rd.isi (K := K) rfl) (by rfl) T.n_isinstance (by decide +kernel) (pa_cons (pv 0) (pa_cons (pe_bltn (v := .ty "str") (u := .type "str") (by rfl) T.n_str (by decide +kernel) rfl) pa_nil))) (pe_one (pe_cmpR op_in_seq (pv 0) (pv 1) (by with_unfolding_all rfl)))))), ?_⟩
      try dsimp only [L2.cxOf, L2.Cx.nox, L2.Cx.wish]
      with_reducible refine Rd.ret (Rd.andV (Rd.cB (Rd.cons (Rd.var (by walk_at "vr") (Rd.cons (Rd.c (Rd.nil ?_)))))))
      refine ⟨_, _, _, _, _, rfl, (by walk_at "clsv"), (by walk_at "tyx"), (by walk_at "kit"), ?_⟩
      with_reducible refine Rd.bl (Rd.iteT (by first | with_unfolding_all rfl | walk_at "bT") (Rd.op (Rd.var (by walk_at "vr") (Rd.var (by walk_at "vr") ?_))))
      refine Rd.inT (.inr (by walk_at "hpt")) rfl (by walk_at "flt") ?_
      with_reducible refine Rd.bl (Rd.iteF (by walk_at "bF") (Rd.next (Rd.ifS (Rd.and (Rd.test (Rd.op (Rd.var (by walk_at "vr") (Rd.c (Rd.eqS (by walk_at "vr") (Rd.bl (Rd.iteF (by first | with_unfolding_all rfl | walk_at "bF") ?_)))))))))))
      with_reducible refine Rd.iteF rfl (Rd.next ?_)
      refine ⟨by walk_at "hpt", ?_⟩
      refine Rd.unrTCons ?_
      with_reducible refine Rd.name ?_
      dsimp only [List.set]
      with_reducible refine Rd.seq (Rd.ifS (Rd.not (Rd.tb (Rd.call (Rd.cons (Rd.var (by walk_at "vr") (Rd.cons (Rd.dget (Rd.var (by walk_at "vr") (Rd.var (by walk_at "vr") ?_))))))))))
      refine Rd.dget2 (by walk_at "hp") (by walk_at "dl") ?_
      with_reducible refine Rd.nil ?_
      refine in_is_part (fun cdv Ar outer s hr => ?_) rfl
      have hu := hu_of hr
      refine ⟨_, (pss_cons (ps_if (pt_cmpR op_eq (pv 0) pe_str (nomark _)) (pss_one ps_never) pss_nil)
            (pss_cons (ps_if (pt_cmpR op_eq (pv 0) pe_str (nomark _)) (pss_one ps_never) pss_nil)
            (pss_one (ps_ret (pe_call (ok_is_word_of T) (hr.mono (by decide)) (by rfl) T.m_is_word_of T.F_is_word_of.kp T.b_is_word_of .nil pass0 (pa_cons (pv 1) (pa_cons (pe_ix ix_kdict (pe_glob (v := .ref A.t_PART_WORDS) rfl T.m_PART_WORDS rfl) (pv 0) (fun _ _ => rfl)) pa_nil))))))), ?_⟩
      try dsimp only [L2.cxOf, L2.Cx.nox, L2.Cx.wish]
      with_reducible refine Rd.seq (Rd.ifS (Rd.test (Rd.op (Rd.var (by walk_at "vr") (Rd.c (Rd.eqS (by walk_at "vr") (Rd.bl (Rd.iteF (by first | with_unfolding_all rfl | walk_at "bF") (Rd.next (Rd.seq (Rd.ifS ?_)))))))))))
      with_reducible refine Rd.test (Rd.op (Rd.var (by walk_at "vr") (Rd.c (Rd.eqS (by walk_at "vr") (Rd.bl (Rd.iteF (by first | with_unfolding_all rfl | walk_at "bF") (Rd.next (Rd.ret (Rd.call (Rd.cons (Rd.var (by walk_at "vr") ?_)))))))))))
      with_reducible refine Rd.cons (Rd.op (Rd.c (Rd.var (by walk_at "vr") ?_)))
      refine ⟨_, _, _, rfl, rfl, T.d_PART_WORDS_when, ?_⟩
      with_reducible refine Rd.nil ?_
      refine in_is_word_of (fun cdv Ar outer s hr => ?_) rfl
      have hu := hu_of hr
      refine ⟨_, (pss_one (ps_ret (pe_and (pe_callB (Rd.isi (K := K) rfl) (by rfl) T.n_isinstance (by decide +kernel) (pa_cons (pv 0) (pa_cons (pe_bltn (v := .ty "str") (u := .type "str") (by rfl) T.n_str (by decide +kernel) rfl) pa_nil))) (pe_one (pe_cmpR op_in_seq (pv 0) (pv 1) (by with_unfolding_all rfl)))))), ?_⟩
      try dsimp only [L2.cxOf, L2.Cx.nox, L2.Cx.wish]
      with_reducible refine Rd.ret (Rd.andV (Rd.cB (Rd.cons (Rd.var (by walk_at "vr") (Rd.cons (Rd.c (Rd.nil ?_)))))))
      refine ⟨_, _, _, _, _, rfl, (by walk_at "clsv"), (by walk_at "tyx"), (by walk_at "kit"), ?_⟩
      with_reducible refine Rd.bl (Rd.iteT (by first | with_unfolding_all rfl | walk_at "bT") (Rd.op (Rd.var (by walk_at "vr") (Rd.var (by walk_at "vr") ?_))))
      refine Rd.inT (.inr (by walk_at "hpt")) rfl (by walk_at "flt") ?_
      with_reducible refine Rd.bl (Rd.iteF (by walk_at "bF") (Rd.next (Rd.ifS (Rd.and (Rd.test (Rd.op (Rd.var (by walk_at "vr") (Rd.c (Rd.eqS (by walk_at "vr") (Rd.bl (Rd.iteF (by first | with_unfolding_all rfl | walk_at "bF") ?_)))))))))))
      with_reducible refine Rd.iteF rfl (Rd.next ?_)
      refine ⟨by walk_at "hpt", ?_⟩
      refine Rd.unrTNil ?_
      with_reducible refine Rd.ret (Rd.c (Rd.name (Rd.seq (Rd.ifS (Rd.test (Rd.op (Rd.var (by walk_at "vr") (Rd.c (⟨rfl, (Rd.bl (Rd.iteF (by first | with_unfolding_all rfl | walk_at "bF") ?_))⟩)))))))))
      with_reducible refine Rd.next (Rd.sfld (Rd.var (by walk_at "vr") (Rd.var (by walk_at "vr") (⟨_, _, _, _, rfl, (by walk_at "hp"), T.k_Scheme, T.n_Scheme_parts, (by walk_at "sfl"), ?_⟩))))
      rw [fS_put]
      exact k _ _ (by walk_at "frm") (by assumption) L2.upd_same (by walk_at "hp")
    · have hw : vw = .int w := hw
      subst hw
      have w1 : 1 ≤ w ∧ w ≤ 100 := w1
      obtain ⟨pf, rfl, hpf⟩ := hf
      have i4 : inV (.str kk) [.str "next", .str "note"] = true := Rd.inW (ws := ["next", "note"]) w4
      have n4 : (!inV (.str kk) [.str "next", .str "note"]) = false := Rd.notF i4
      have i2 : (!inV (.str sl) [.str "rest", .str "off", .str "mask"]) = false := Rd.notF (Rd.inW (ws := ["rest", "off", "mask"]) w2)
      have i3 : (!inV (.str em) [.str "same", .str "count", .str "note"]) = false := Rd.notF (Rd.inW (ws := ["same", "count", "note"]) w3)
      have i6 : (!inV (.str wn) [.str "refuse", .str "drop", .str "over"]) = false := Rd.notF (Rd.inW (ws := ["refuse", "drop", "over"]) w5)
      have m1 : decide (V.str sl = V.str "mask") = false := nmask hm
      refine ⟨_, (pss_cons (ps_set (i := 6) sc_Schemeu__initu_.nd rfl (Or.inl rfl) (pe_disp (pps_cons pe_str (pv 1) (pps_cons pe_str (pv 2) (pps_cons pe_str (pv 3) (pps_cons pe_str (pv 4) (pps_cons pe_str (pv 5) pps_nil))))) rfl rfl (by simp) (by decide)))
      (pss_cons (ps_set (i := 7) sc_Schemeu__initu_.nd rfl (Or.inl rfl) (pe_call (ok_first_wrong T) (hr.mono (by decide)) (by rfl) T.m_first_wrong T.F_first_wrong.kp T.b_first_wrong .nil pass0 (pa_cons (pv 6) pa_nil)))
      (pss_cons (ps_if (pt_cmpR op_notN (pv 7) pe_non (nomark _)) (pss_one ps_never) pss_nil)
      (pss_one (ps_fld (pv 0) (pv 6) rfl))))), ?_⟩
      try dsimp only [L2.cxOf, L2.Cx.nox, L2.Cx.wish]
      with_reducible refine Rd.seq (Rd.asg ?_)
      refine Rd.disp5 (fun _ _ h => Rd.var (by walk_at "vr") h) (fun _ _ h => Rd.var (by walk_at "vr") h) (fun _ _ h => Rd.var (by walk_at "vr") h) (fun _ _ h => Rd.var (by walk_at "vr") h) (fun _ _ h => Rd.var (by walk_at "vr") h) ?_
      intro pd241_16 npd241_16
      rw [kvP_merge]
      with_reducible refine Rd.name (Rd.seq (Rd.asg (Rd.call (Rd.cons (Rd.var (by walk_at "vr") (Rd.nil ?_))))))
      refine in_first_wrong (fun cdv Ar outer s hr => ?_) rfl
      have hu := hu_of hr
      refine ⟨_, (pss_cons (ps_for PassesOwn.never rfl (pi_tup (pe_glob (v := .ref A.t_PART_NAMES) rfl T.m_PART_NAMES rfl)) (pg_name (i := 1) sc_first_wrong.nd rfl (Or.inl rfl)) (pss_cons (ps_if (pt_not (pt_val (pe_call (ok_is_part T) (hr.mono (by decide)) (by rfl) T.m_is_part T.F_is_part.kp T.b_is_part .nil pass0 (pa_cons (pv 1) (pa_cons (pe_dget hu (pv 0) (pv 1) (fun _ _ => rfl)) pa_nil))))) (pss_one ps_never) pss_nil) (pss_one (ps_if (PW.pt (pw_and (pt_cmpR op_eq (pv 1) pe_str (nomark _)) (pw_and (pt_cmpR op_eq (pe_dget hu (pv 0) pe_str (fun _ _ => rfl)) pe_str (nomark _)) (pw_and1 Rd.ptN)))) (pss_one ps_never) pss_nil))))
            (pss_one (ps_ret pe_non))), ?_⟩
      try dsimp only [L2.cxOf, L2.Cx.nox, L2.Cx.wish]
      with_reducible refine Rd.seq (Rd.fr (Rd.it (Rd.c (⟨_, rfl, ?_⟩))))
      refine Rd.unrollT (by walk_at "hpt") ?_
      refine Rd.unrTCons ?_
      with_reducible refine Rd.name ?_
      dsimp only [List.set]
      with_reducible refine Rd.seq (Rd.ifS (Rd.not (Rd.tb (Rd.call (Rd.cons (Rd.var (by walk_at "vr") (Rd.cons (Rd.dget (Rd.var (by walk_at "vr") (Rd.var (by walk_at "vr") ?_))))))))))
      refine Rd.dget2 (by walk_at "hp") (by walk_at "dl") ?_
      with_reducible refine Rd.nil ?_
      refine in_is_part (fun cdv Ar outer s hr => ?_) rfl
      have hu := hu_of hr
      refine ⟨_, (pss_cons (ps_if (pt_cmpR op_eq (pv 0) pe_str (nomark _)) (pss_one (ps_ret (pe_call (ok_is_wrap T) (hr.mono (by decide)) (by rfl) T.m_is_wrap T.F_is_wrap.kp T.b_is_wrap .nil pass0 (pa_cons (pv 1) pa_nil)))) pss_nil)
            (pss_cons ps_never (pss_one ps_never))), ?_⟩
      try dsimp only [L2.cxOf, L2.Cx.nox, L2.Cx.wish]
      with_reducible refine Rd.seq (Rd.ifS (Rd.test (Rd.op (Rd.var (by walk_at "vr") (Rd.c (Rd.eqS (by walk_at "vr") (Rd.bl (Rd.iteT (by first | with_unfolding_all rfl | walk_at "bT") (Rd.ret (Rd.call (Rd.cons ?_)))))))))))
      with_reducible refine Rd.var (by walk_at "vr") (Rd.nil ?_)
      refine in_is_wrap (fun cdv Ar outer s hr => ?_) rfl
      have hu := hu_of hr
      refine ⟨_, (pss_one (ps_ret (pe_or (pe_call (ok_is_small_form T) (hr.mono (by decide)) (by rfl) T.m_is_small_form T.F_is_small_form.kp T.b_is_small_form .nil pass0 (pa_cons (pv 0) pa_nil)) (pe_one (pe_call (ok_is_whole_from T) (hr.mono (by decide)) (by rfl) T.m_is_whole_from T.F_is_whole_from.kp T.b_is_whole_from .nil pass0 (pa_cons (pv 0) (pa_cons pe_int (pa_cons (pe_glob (v := .int (100)) rfl T.m_GREATEST_WIDTH ⟨_, rfl⟩) pa_nil)))))))), ?_⟩
      try dsimp only [L2.cxOf, L2.Cx.nox, L2.Cx.wish]
      with_reducible refine Rd.ret (Rd.orV (Rd.call (Rd.cons (Rd.var (by walk_at "vr") (Rd.nil ?_)))))
      refine in_is_small_form (fun cdv Ar outer s hr => ?_) rfl
      have hu := hu_of hr
      refine ⟨_, (pss_cons (ps_if (pt_not (pt_val (pe_callB (Rd.isi (K := K) rfl) (by rfl) T.n_isinstance (by decide +kernel) (pa_cons (pv 0) (pa_cons (pe_glob (v := .ref A.c_Form) rfl T.m_Form rfl) pa_nil))))) (pss_one (ps_ret pe_bl)) pss_nil)
            (pss_one ps_never)), ?_⟩
      try dsimp only [L2.cxOf, L2.Cx.nox, L2.Cx.wish]
      with_reducible refine Rd.seq (Rd.ifS (Rd.not (Rd.tb (Rd.cB (Rd.cons (Rd.var (by walk_at "vr") (Rd.cons (Rd.c (Rd.nil ?_)))))))))
      refine ⟨_, _, _, _, _, rfl, (by walk_at "clsv"), (by walk_at "tyx"), (by walk_at "kit"), ?_⟩
      with_reducible refine Rd.bl (Rd.iteT (by first | with_unfolding_all rfl | walk_at "bT") (Rd.ret (Rd.c (Rd.bl (Rd.iteF (by first | with_unfolding_all rfl | walk_at "bF") (Rd.call (Rd.cons (Rd.var (by walk_at "vr") (Rd.cons (Rd.c (Rd.cons ?_)))))))))))
      with_reducible refine Rd.c (Rd.nil ?_)
      refine ⟨_, _, _, rfl, (by walk_at "sc"), (by walk_at "sc"), ?_⟩
      with_reducible refine Rd.bl (Rd.iteF (by walk_at "bF") (Rd.next (Rd.ifS (Rd.and (Rd.test (Rd.op (Rd.var (by walk_at "vr") (Rd.c (Rd.eqS (by walk_at "vr") (Rd.bl (Rd.iteF (by first | with_unfolding_all rfl | walk_at "bF") ?_)))))))))))
      with_reducible refine Rd.iteF rfl (Rd.next ?_)
      refine ⟨by walk_at "hpt", ?_⟩
      refine Rd.unrTCons ?_
      with_reducible refine Rd.name ?_
      dsimp only [List.set]
      with_reducible refine Rd.seq (Rd.ifS (Rd.not (Rd.tb (Rd.call (Rd.cons (Rd.var (by walk_at "vr") (Rd.cons (Rd.dget (Rd.var (by walk_at "vr") (Rd.var (by walk_at "vr") ?_))))))))))
      refine Rd.dget2 (by walk_at "hp") (by walk_at "dl") ?_
      with_reducible refine Rd.nil ?_
      refine in_is_part (fun cdv Ar outer s hr => ?_) rfl
      have hu := hu_of hr
      refine ⟨_, (pss_cons (ps_if (pt_cmpR op_eq (pv 0) pe_str (nomark _)) (pss_one ps_never) pss_nil)
            (pss_cons (ps_if (pt_cmpR op_eq (pv 0) pe_str (nomark _)) (pss_one ps_never) pss_nil)
            (pss_one (ps_ret (pe_call (ok_is_word_of T) (hr.mono (by decide)) (by rfl) T.m_is_word_of T.F_is_word_of.kp T.b_is_word_of .nil pass0 (pa_cons (pv 1) (pa_cons (pe_ix ix_kdict (pe_glob (v := .ref A.t_PART_WORDS) rfl T.m_PART_WORDS rfl) (pv 0) (fun _ _ => rfl)) pa_nil))))))), ?_⟩
      try dsimp only [L2.cxOf, L2.Cx.nox, L2.Cx.wish]
      with_reducible refine Rd.seq (Rd.ifS (Rd.test (Rd.op (Rd.var (by walk_at "vr") (Rd.c (Rd.eqS (by walk_at "vr") (Rd.bl (Rd.iteF (by first | with_unfolding_all rfl | walk_at "bF") (Rd.next (Rd.seq (Rd.ifS ?_)))))))))))
      with_reducible refine Rd.test (Rd.op (Rd.var (by walk_at "vr") (Rd.c (Rd.eqS (by walk_at "vr") (Rd.bl (Rd.iteF (by first | with_unfolding_all rfl | walk_at "bF") (Rd.next (Rd.ret (Rd.call (Rd.cons (Rd.var (by walk_at "vr") ?_)))))))))))
      with_reducible refine Rd.cons (Rd.op (Rd.c (Rd.var (by walk_at "vr") ?_)))
      refine ⟨_, _, _, rfl, rfl, T.d_PART_WORDS_slot, ?_⟩
      with_reducible refine Rd.nil ?_
      refine in_is_word_of (fun cdv Ar outer s hr => ?_) rfl
      have hu := hu_of hr
      refine ⟨_, (pss_one (ps_ret (pe_and (pe_callB (Rd.isi (K := K) rfl) (by rfl) T.n_isinstance (by decide +kernel) (pa_cons (pv 0) (pa_cons (pe_bltn (v := .ty "str") (u := .type "str") (by rfl) T.n_str (by decide +kernel) rfl) pa_nil))) (pe_one (pe_cmpR op_in_seq (pv 0) (pv 1) (by with_unfolding_all rfl)))))), ?_⟩
      try dsimp only [L2.cxOf, L2.Cx.nox, L2.Cx.wish]
      with_reducible refine Rd.ret (Rd.andV (Rd.cB (Rd.cons (Rd.var (by walk_at "vr") (Rd.cons (Rd.c (Rd.nil ?_)))))))
      refine ⟨_, _, _, _, _, rfl, (by walk_at "clsv"), (by walk_at "tyx"), (by walk_at "kit"), ?_⟩
      with_reducible refine Rd.bl (Rd.iteT (by first | with_unfolding_all rfl | walk_at "bT") (Rd.op (Rd.var (by walk_at "vr") (Rd.var (by walk_at "vr") ?_))))
      refine Rd.inT (.inr (by walk_at "hpt")) rfl (by walk_at "flt") ?_
      with_reducible refine Rd.bl (Rd.iteF (by walk_at "bF") (Rd.next (Rd.ifS (Rd.and (Rd.test (Rd.op (Rd.var (by walk_at "vr") (Rd.c (Rd.eqS (by walk_at "vr") (Rd.bl (Rd.iteT (by first | with_unfolding_all rfl | walk_at "bT") ?_)))))))))))
      with_reducible refine Rd.and (Rd.test (Rd.op (Rd.dget (Rd.var (by walk_at "vr") (Rd.c ?_)))))
      refine Rd.dget2 (by walk_at "hp") (by walk_at "dl") ?_
      with_reducible refine Rd.c (Rd.eqS (by walk_at "vr") (Rd.bl (Rd.iteF (by walk_at "bF") (Rd.iteF rfl (Rd.next ?_)))))
      refine ⟨by walk_at "hpt", ?_⟩
      refine Rd.unrTCons ?_
      with_reducible refine Rd.name ?_
      dsimp only [List.set]
      with_reducible refine Rd.seq (Rd.ifS (Rd.not (Rd.tb (Rd.call (Rd.cons (Rd.var (by walk_at "vr") (Rd.cons (Rd.dget (Rd.var (by walk_at "vr") (Rd.var (by walk_at "vr") ?_))))))))))
      refine Rd.dget2 (by walk_at "hp") (by walk_at "dl") ?_
      with_reducible refine Rd.nil ?_
      refine in_is_part (fun cdv Ar outer s hr => ?_) rfl
      have hu := hu_of hr
      refine ⟨_, (pss_cons (ps_if (pt_cmpR op_eq (pv 0) pe_str (nomark _)) (pss_one ps_never) pss_nil)
            (pss_cons (ps_if (pt_cmpR op_eq (pv 0) pe_str (nomark _)) (pss_one ps_never) pss_nil)
            (pss_one (ps_ret (pe_call (ok_is_word_of T) (hr.mono (by decide)) (by rfl) T.m_is_word_of T.F_is_word_of.kp T.b_is_word_of .nil pass0 (pa_cons (pv 1) (pa_cons (pe_ix ix_kdict (pe_glob (v := .ref A.t_PART_WORDS) rfl T.m_PART_WORDS rfl) (pv 0) (fun _ _ => rfl)) pa_nil))))))), ?_⟩
      try dsimp only [L2.cxOf, L2.Cx.nox, L2.Cx.wish]
      with_reducible refine Rd.seq (Rd.ifS (Rd.test (Rd.op (Rd.var (by walk_at "vr") (Rd.c (Rd.eqS (by walk_at "vr") (Rd.bl (Rd.iteF (by first | with_unfolding_all rfl | walk_at "bF") (Rd.next (Rd.seq (Rd.ifS ?_)))))))))))
      with_reducible refine Rd.test (Rd.op (Rd.var (by walk_at "vr") (Rd.c (Rd.eqS (by walk_at "vr") (Rd.bl (Rd.iteF (by first | with_unfolding_all rfl | walk_at "bF") (Rd.next (Rd.ret (Rd.call (Rd.cons (Rd.var (by walk_at "vr") ?_)))))))))))
      with_reducible refine Rd.cons (Rd.op (Rd.c (Rd.var (by walk_at "vr") ?_)))
      refine ⟨_, _, _, rfl, rfl, T.d_PART_WORDS_empty, ?_⟩
      with_reducible refine Rd.nil ?_
      refine in_is_word_of (fun cdv Ar outer s hr => ?_) rfl
      have hu := hu_of hr
      refine ⟨_, (pss_one (ps_ret (pe_and (pe_callB (Rd.isi (K := K) rfl) (by rfl) T.n_isinstance (by decide +kernel) (pa_cons (pv 0) (pa_cons (pe_bltn (v := .ty "str") (u := .type "str") (by rfl) T.n_str (by decide +kernel) rfl) pa_nil))) (pe_one (pe_cmpR op_in_seq (pv 0) (pv 1) (by with_unfolding_all rfl)))))), ?_⟩
      try dsimp only [L2.cxOf, L2.Cx.nox, L2.Cx.wish]
      with_reducible refine Rd.ret (Rd.andV (Rd.cB (Rd.cons (Rd.var (by walk_at "vr") (Rd.cons (Rd.c (Rd.nil ?_)))))))
      refine ⟨_, _, _, _, _, rfl, (by walk_at "clsv"), (by walk_at "tyx"), (by walk_at "kit"), ?_⟩
      with_reducible refine Rd.bl (Rd.iteT (by first | with_unfolding_all rfl | walk_at "bT") (Rd.op (Rd.var (by walk_at "vr") (Rd.var (by walk_at "vr") ?_))))
      refine Rd.inT (.inr (by walk_at "hpt")) rfl (by walk_at "flt") ?_
      with_reducible refine Rd.bl (Rd.iteF (by walk_at "bF") (Rd.next (Rd.ifS (Rd.and (Rd.test (Rd.op (Rd.var (by walk_at "vr") (Rd.c (Rd.eqS (by walk_at "vr") (Rd.bl (Rd.iteF (by first | with_unfolding_all rfl | walk_at "bF") ?_)))))))))))
      with_reducible refine Rd.iteF rfl (Rd.next ?_)
      refine ⟨by walk_at "hpt", ?_⟩
      refine Rd.unrTCons ?_
      with_reducible refine Rd.name ?_
      dsimp only [List.set]
      with_reducible refine Rd.seq (Rd.ifS (Rd.not (Rd.tb (Rd.call (Rd.cons (Rd.var (by walk_at "vr") (Rd.cons (Rd.dget (Rd.var (by walk_at "vr") (Rd.var (by walk_at "vr") ?_))))))))))
      refine Rd.dget2 (by walk_at "hp") (by walk_at "dl") ?_
      with_reducible refine Rd.nil ?_
      refine in_is_part (fun cdv Ar outer s hr => ?_) rfl
      have hu := hu_of hr
      refine ⟨_, (pss_cons (ps_if (pt_cmpR op_eq (pv 0) pe_str (nomark _)) (pss_one ps_never) pss_nil)
            (pss_cons (ps_if (pt_cmpR op_eq (pv 0) pe_str (nomark _)) (pss_one (ps_ret (pe_call (ok_is_full T) (hr.mono (by decide)) (by rfl) T.m_is_full T.F_is_full.kp T.b_is_full .nil pass0 (pa_cons (pv 1) pa_nil)))) pss_nil)
            (pss_one ps_never))), ?_⟩
      try dsimp only [L2.cxOf, L2.Cx.nox, L2.Cx.wish]
      with_reducible refine Rd.seq (Rd.ifS (Rd.test (Rd.op (Rd.var (by walk_at "vr") (Rd.c (Rd.eqS (by walk_at "vr") (Rd.bl (Rd.iteF (by first | with_unfolding_all rfl | walk_at "bF") (Rd.next (Rd.seq (Rd.ifS ?_)))))))))))
      with_reducible refine Rd.test (Rd.op (Rd.var (by walk_at "vr") (Rd.c (Rd.eqS (by walk_at "vr") (Rd.bl (Rd.iteT (by first | with_unfolding_all rfl | walk_at "bT") (Rd.ret (Rd.call (Rd.cons (Rd.var (by walk_at "vr") (Rd.nil ?_)))))))))))
      refine in_is_full (fun cdv Ar outer s hr => ?_) rfl
      have hu := hu_of hr
      refine ⟨_, (pss_cons (ps_if (pt_not (pt_val (pe_callB (Rd.isi (K := K) rfl) (by rfl) T.n_isinstance (by decide +kernel) (pa_cons (pv 0) (pa_cons (pe_bltn (v := .ty "tuple") (u := .type "tuple") (by rfl) T.n_tuple (by decide +kernel) rfl) pa_nil))))) (pss_one ps_never) pss_nil)
            (pss_cons (ps_if (pt_cmpR op_eq (pe_callB call_len_seq (by rfl) T.n_len PySem.boot_len (pa_cons (pv 0) pa_nil)) pe_int (nomark _)) (pss_one (ps_ret (pe_call (ok_is_word_of T) (hr.mono (by decide)) (by rfl) T.m_is_word_of T.F_is_word_of.kp T.b_is_word_of .nil pass0 (pa_cons (pe_ix ix_tup (pv 0) pe_int (fun _ _ => rfl)) (pa_cons (pe_glob (v := .ref A.t_PLAIN_FULLS) rfl T.m_PLAIN_FULLS rfl) pa_nil))))) pss_nil)
            (pss_cons ps_never (pss_one ps_never)))), ?_⟩
      try dsimp only [L2.cxOf, L2.Cx.nox, L2.Cx.wish]
      with_reducible refine Rd.seq (Rd.ifS (Rd.not (Rd.tb (Rd.cB (Rd.cons (Rd.var (by walk_at "vr") (Rd.cons (Rd.c (Rd.nil ?_)))))))))
      refine ⟨_, _, _, _, _, rfl, (by walk_at "clsv"), (by walk_at "tyx"), (by walk_at "kit"), ?_⟩
      with_reducible refine Rd.bl (Rd.iteF (by first | with_unfolding_all rfl | walk_at "bF") (Rd.next (Rd.seq (Rd.ifS (Rd.test (Rd.op (Rd.cB (Rd.cons (Rd.var (by walk_at "vr") (Rd.nil (⟨_, _, rfl, (by walk_at "hpq"), ?_⟩)))))))))))
      with_reducible refine Rd.c (Rd.eqS (by walk_at "vr") (Rd.bl (Rd.iteT (by first | with_unfolding_all rfl | walk_at "bT") (Rd.ret (Rd.call (Rd.cons (Rd.op (Rd.var (by walk_at "vr") (Rd.c (Rd.ixT (by walk_at "hpt") (by walk_at "vr") (Rd.cons ?_)))))))))))
      with_reducible refine Rd.c (Rd.nil ?_)
      refine in_is_word_of (fun cdv Ar outer s hr => ?_) rfl
      have hu := hu_of hr
      refine ⟨_, (pss_one (ps_ret (pe_and (pe_callB (Rd.isi (K := K) rfl) (by rfl) T.n_isinstance (by decide +kernel) (pa_cons (pv 0) (pa_cons (pe_bltn (v := .ty "str") (u := .type "str") (by rfl) T.n_str (by decide +kernel) rfl) pa_nil))) (pe_one (pe_cmpR op_in_seq (pv 0) (pv 1) (by with_unfolding_all rfl)))))), ?_⟩
      try dsimp only [L2.cxOf, L2.Cx.nox, L2.Cx.wish]
      with_reducible refine Rd.ret (Rd.andV (Rd.cB (Rd.cons (Rd.var (by walk_at "vr") (Rd.cons (Rd.c (Rd.nil ?_)))))))
      refine ⟨_, _, _, _, _, rfl, (by walk_at "clsv"), (by walk_at "tyx"), (by walk_at "kit"), ?_⟩
      with_reducible refine Rd.bl (Rd.iteT (by first | with_unfolding_all rfl | walk_at "bT") (Rd.op (Rd.var (by walk_at "vr") (Rd.var (by walk_at "vr") ?_))))
      refine Rd.inT (.inr (by walk_at "hpt")) rfl (by walk_at "flt") ?_
      with_reducible refine Rd.bl (Rd.iteF (by walk_at "bF") (Rd.next (Rd.ifS (Rd.and (Rd.test (Rd.op (Rd.var (by walk_at "vr") (Rd.c (Rd.eqS (by walk_at "vr") (Rd.bl (Rd.iteF (by first | with_unfolding_all rfl | walk_at "bF") ?_)))))))))))
      with_reducible refine Rd.iteF rfl (Rd.next ?_)
      refine ⟨by walk_at "hpt", ?_⟩
      refine Rd.unrTCons ?_
      with_reducible refine Rd.name ?_
      dsimp only [List.set]
      with_reducible refine Rd.seq (Rd.ifS (Rd.not (Rd.tb (Rd.call (Rd.cons (Rd.var (by walk_at "vr") (Rd.cons (Rd.dget (Rd.var (by walk_at "vr") (Rd.var (by walk_at "vr") ?_))))))))))
      refine Rd.dget2 (by walk_at "hp") (by walk_at "dl") ?_
      with_reducible refine Rd.nil ?_
      refine in_is_part (fun cdv Ar outer s hr => ?_) rfl
      have hu := hu_of hr
      refine ⟨_, (pss_cons (ps_if (pt_cmpR op_eq (pv 0) pe_str (nomark _)) (pss_one ps_never) pss_nil)
            (pss_cons (ps_if (pt_cmpR op_eq (pv 0) pe_str (nomark _)) (pss_one ps_never) pss_nil)
            (pss_one (ps_ret (pe_call (ok_is_word_of T) (hr.mono (by decide)) (by rfl) T.m_is_word_of T.F_is_word_of.kp T.b_is_word_of .nil pass0 (pa_cons (pv 1) (pa_cons (pe_ix ix_kdict (pe_glob (v := .ref A.t_PART_WORDS) rfl T.m_PART_WORDS rfl) (pv 0) (fun _ _ => rfl)) pa_nil))))))), ?_⟩
      try dsimp only [L2.cxOf, L2.Cx.nox, L2.Cx.wish]
      with_reducible refine Rd.seq (Rd.ifS (Rd.test (Rd.op (Rd.var (by walk_at "vr") (Rd.c (Rd.eqS (by walk_at "vr") (Rd.bl (Rd.iteF (by first | with_unfolding_all rfl | walk_at "bF") (Rd.next (Rd.seq (Rd.ifS ?_)))))))))))
      with_reducible refine Rd.test (Rd.op (Rd.var (by walk_at "vr") (Rd.c (Rd.eqS (by walk_at "vr") (Rd.bl (Rd.iteF (by first | with_unfolding_all rfl | walk_at "bF") (Rd.next (Rd.ret (Rd.call (Rd.cons (Rd.var (by walk_at "vr") ?_)))))))))))
      with_reducible refine Rd.cons (Rd.op (Rd.c (Rd.var (by walk_at "vr") ?_)))
      refine ⟨_, _, _, rfl, rfl, T.d_PART_WORDS_when, ?_⟩
      with_reducible refine Rd.nil ?_
      refine in_is_word_of (fun cdv Ar outer s hr => ?_) rfl
      have hu := hu_of hr
      refine ⟨_, (pss_one (ps_ret (pe_and (pe_callB (Rd.isi (K := K) rfl) (by rfl) T.n_isinstance (by decide +kernel) (pa_cons (pv 0) (pa_cons (pe_bltn (v := .ty "str") (u := .type "str") (by rfl) T.n_str (by decide +kernel) rfl) pa_nil))) (pe_one (pe_cmpR op_in_seq (pv 0) (pv 1) (by with_unfolding_all rfl)))))), ?_⟩
      try dsimp only [L2.cxOf, L2.Cx.nox, L2.Cx.wish]
      with_reducible refine Rd.ret (Rd.andV (Rd.cB (Rd.cons (Rd.var (by walk_at "vr") (Rd.cons (Rd.c (Rd.nil ?_)))))))
      refine ⟨_, _, _, _, _, rfl, (by walk_at "clsv"), (by walk_at "tyx"), (by walk_at "kit"), ?_⟩
      with_reducible refine Rd.bl (Rd.iteT (by first | with_unfolding_all rfl | walk_at "bT") (Rd.op (Rd.var (by walk_at "vr") (Rd.var (by walk_at "vr") ?_))))
      refine Rd.inT (.inr (by walk_at "hpt")) rfl (by walk_at "flt") ?_
      with_reducible refine Rd.bl (Rd.iteF (by walk_at "bF") (Rd.next (Rd.ifS (Rd.and (Rd.test (Rd.op (Rd.var (by walk_at "vr") (Rd.c (Rd.eqS (by walk_at "vr") (Rd.bl (Rd.iteF (by first | with_unfolding_all rfl | walk_at "bF") ?_)))))))))))
      with_reducible refine Rd.iteF rfl (Rd.next ?_)
      refine ⟨by walk_at "hpt", ?_⟩
      refine Rd.unrTNil ?_
      with_reducible refine Rd.ret (Rd.c (Rd.name (Rd.seq (Rd.ifS (Rd.test (Rd.op (Rd.var (by walk_at "vr") (Rd.c (⟨rfl, (Rd.bl (Rd.iteF (by first | with_unfolding_all rfl | walk_at "bF") ?_))⟩)))))))))
      with_reducible refine Rd.next (Rd.sfld (Rd.var (by walk_at "vr") (Rd.var (by walk_at "vr") (⟨_, _, _, _, rfl, (by walk_at "hp"), T.k_Scheme, T.n_Scheme_parts, (by walk_at "sfl"), ?_⟩))))
      rw [fS_put]
      exact k _ _ (by walk_at "frm") (by assumption) L2.upd_same (by walk_at "hp")
    · have hw : vw = .int w := hw
      subst hw
      have w1 : 1 ≤ w ∧ w ≤ 100 := w1
      obtain ⟨pf, qf, dqf, rfl, hpf, hqf⟩ := hf
      obtain ⟨f1, f2, f3⟩ := w4
      have i4 : inV (.str kk) [.str "diff", .str "count"] = true := Rd.inW (ws := ["diff", "count"]) f1
      have i5 : inV (.str g) [.str "=", .str ">="] = true := Rd.inW (ws := ["=", ">="]) f2
      have i2 : (!inV (.str sl) [.str "rest", .str "off", .str "mask"]) = false := Rd.notF (Rd.inW (ws := ["rest", "off", "mask"]) w2)
      have i3 : (!inV (.str em) [.str "same", .str "count", .str "note"]) = false := Rd.notF (Rd.inW (ws := ["same", "count", "note"]) w3)
      have i6 : (!inV (.str wn) [.str "refuse", .str "drop", .str "over"]) = false := Rd.notF (Rd.inW (ws := ["refuse", "drop", "over"]) w5)
      have m1 : decide (V.str sl = V.str "mask") = true := decide_eq_true (by rw [hm])
      refine ⟨_, (pss_cons (ps_set (i := 6) sc_Schemeu__initu_.nd rfl (Or.inl rfl) (pe_disp (pps_cons pe_str (pv 1) (pps_cons pe_str (pv 2) (pps_cons pe_str (pv 3) (pps_cons pe_str (pv 4) (pps_cons pe_str (pv 5) pps_nil))))) rfl rfl (by simp) (by decide)))
      (pss_cons (ps_set (i := 7) sc_Schemeu__initu_.nd rfl (Or.inl rfl) (pe_call (ok_first_wrong T) (hr.mono (by decide)) (by rfl) T.m_first_wrong T.F_first_wrong.kp T.b_first_wrong .nil pass0 (pa_cons (pv 6) pa_nil)))
      (pss_cons (ps_if (pt_cmpR op_notN (pv 7) pe_non (nomark _)) (pss_one ps_never) pss_nil)
      (pss_one (ps_fld (pv 0) (pv 6) rfl))))), ?_⟩
      try dsimp only [L2.cxOf, L2.Cx.nox, L2.Cx.wish]
      with_reducible refine Rd.seq (Rd.asg ?_)
      refine Rd.disp5 (fun _ _ h => Rd.var (by walk_at "vr") h) (fun _ _ h => Rd.var (by walk_at "vr") h) (fun _ _ h => Rd.var (by walk_at "vr") h) (fun _ _ h => Rd.var (by walk_at "vr") h) (fun _ _ h => Rd.var (by walk_at "vr") h) ?_
      intro pd241_16 npd241_16
      rw [kvP_merge]
      with_reducible refine Rd.name (Rd.seq (Rd.asg (Rd.call (Rd.cons (Rd.var (by walk_at "vr") (Rd.nil ?_))))))
      refine in_first_wrong (fun cdv Ar outer s hr => ?_) rfl
      have hu := hu_of hr
      refine ⟨_, (pss_cons (ps_for PassesOwn.never rfl (pi_tup (pe_glob (v := .ref A.t_PART_NAMES) rfl T.m_PART_NAMES rfl)) (pg_name (i := 1) sc_first_wrong.nd rfl (Or.inl rfl)) (pss_cons (ps_if (pt_not (pt_val (pe_call (ok_is_part T) (hr.mono (by decide)) (by rfl) T.m_is_part T.F_is_part.kp T.b_is_part .nil pass0 (pa_cons (pv 1) (pa_cons (pe_dget hu (pv 0) (pv 1) (fun _ _ => rfl)) pa_nil))))) (pss_one ps_never) pss_nil) (pss_one (ps_if (PW.pt (pw_and (pt_cmpR op_eq (pv 1) pe_str (nomark _)) (pw_and (pt_cmpR op_eq (pe_dget hu (pv 0) pe_str (fun _ _ => rfl)) pe_str (nomark _)) (pw_and1 (pt_val (pe_callB (Rd.isi (K := K) rfl) (by rfl) T.n_isinstance (by decide +kernel) (pa_cons (pe_dget hu (pv 0) pe_str (fun _ _ => rfl)) (pa_cons (pe_glob (v := .ref A.c_Form) rfl T.m_Form rfl) pa_nil)))))))) (pss_one ps_never) pss_nil))))
            (pss_one (ps_ret pe_non))), ?_⟩
      try dsimp only [L2.cxOf, L2.Cx.nox, L2.Cx.wish]
      with_reducible refine Rd.seq (Rd.fr (Rd.it (Rd.c (⟨_, rfl, ?_⟩))))
      refine Rd.unrollT (by walk_at "hpt") ?_
      refine Rd.unrTCons ?_
      with_reducible refine Rd.name ?_
      dsimp only [List.set]
      with_reducible refine Rd.seq (Rd.ifS (Rd.not (Rd.tb (Rd.call (Rd.cons (Rd.var (by walk_at "vr") (Rd.cons (Rd.dget (Rd.var (by walk_at "vr") (Rd.var (by walk_at "vr") ?_))))))))))
      refine Rd.dget2 (by walk_at "hp") (by walk_at "dl") ?_
      with_reducible refine Rd.nil ?_
      refine in_is_part (fun cdv Ar outer s hr => ?_) rfl
      have hu := hu_of hr
      refine ⟨_, (pss_cons (ps_if (pt_cmpR op_eq (pv 0) pe_str (nomark _)) (pss_one (ps_ret (pe_call (ok_is_wrap T) (hr.mono (by decide)) (by rfl) T.m_is_wrap T.F_is_wrap.kp T.b_is_wrap .nil pass0 (pa_cons (pv 1) pa_nil)))) pss_nil)
            (pss_cons ps_never (pss_one ps_never))), ?_⟩
      try dsimp only [L2.cxOf, L2.Cx.nox, L2.Cx.wish]
      with_reducible refine Rd.seq (Rd.ifS (Rd.test (Rd.op (Rd.var (by walk_at "vr") (Rd.c (Rd.eqS (by walk_at "vr") (Rd.bl (Rd.iteT (by first | with_unfolding_all rfl | walk_at "bT") (Rd.ret (Rd.call (Rd.cons ?_)))))))))))
      with_reducible refine Rd.var (by walk_at "vr") (Rd.nil ?_)
      refine in_is_wrap (fun cdv Ar outer s hr => ?_) rfl
      have hu := hu_of hr
      refine ⟨_, (pss_one (ps_ret (pe_or (pe_call (ok_is_small_form T) (hr.mono (by decide)) (by rfl) T.m_is_small_form T.F_is_small_form.kp T.b_is_small_form .nil pass0 (pa_cons (pv 0) pa_nil)) (pe_one (pe_call (ok_is_whole_from T) (hr.mono (by decide)) (by rfl) T.m_is_whole_from T.F_is_whole_from.kp T.b_is_whole_from .nil pass0 (pa_cons (pv 0) (pa_cons pe_int (pa_cons (pe_glob (v := .int (100)) rfl T.m_GREATEST_WIDTH ⟨_, rfl⟩) pa_nil)))))))), ?_⟩
      try dsimp only [L2.cxOf, L2.Cx.nox, L2.Cx.wish]
      with_reducible refine Rd.ret (Rd.orV (Rd.call (Rd.cons (Rd.var (by walk_at "vr") (Rd.nil ?_)))))
      refine in_is_small_form (fun cdv Ar outer s hr => ?_) rfl
      have hu := hu_of hr
      refine ⟨_, (pss_cons (ps_if (pt_not (pt_val (pe_callB (Rd.isi (K := K) rfl) (by rfl) T.n_isinstance (by decide +kernel) (pa_cons (pv 0) (pa_cons (pe_glob (v := .ref A.c_Form) rfl T.m_Form rfl) pa_nil))))) (pss_one (ps_ret pe_bl)) pss_nil)
            (pss_one ps_never)), ?_⟩
      try dsimp only [L2.cxOf, L2.Cx.nox, L2.Cx.wish]
      with_reducible refine Rd.seq (Rd.ifS (Rd.not (Rd.tb (Rd.cB (Rd.cons (Rd.var (by walk_at "vr") (Rd.cons (Rd.c (Rd.nil ?_)))))))))
      refine ⟨_, _, _, _, _, rfl, (by walk_at "clsv"), (by walk_at "tyx"), (by walk_at "kit"), ?_⟩
      with_reducible refine Rd.bl (Rd.iteT (by first | with_unfolding_all rfl | walk_at "bT") (Rd.ret (Rd.c (Rd.bl (Rd.iteF (by first | with_unfolding_all rfl | walk_at "bF") (Rd.call (Rd.cons (Rd.var (by walk_at "vr") (Rd.cons (Rd.c (Rd.cons ?_)))))))))))
      with_reducible refine Rd.c (Rd.nil ?_)
      refine ⟨_, _, _, rfl, (by walk_at "sc"), (by walk_at "sc"), ?_⟩
      with_reducible refine Rd.bl (Rd.iteF (by walk_at "bF") (Rd.next (Rd.ifS (Rd.and (Rd.test (Rd.op (Rd.var (by walk_at "vr") (Rd.c (Rd.eqS (by walk_at "vr") (Rd.bl (Rd.iteF (by first | with_unfolding_all rfl | walk_at "bF") ?_)))))))))))
      with_reducible refine Rd.iteF rfl (Rd.next ?_)
      refine ⟨by walk_at "hpt", ?_⟩
      refine Rd.unrTCons ?_
      with_reducible refine Rd.name ?_
      dsimp only [List.set]
      with_reducible refine Rd.seq (Rd.ifS (Rd.not (Rd.tb (Rd.call (Rd.cons (Rd.var (by walk_at "vr") (Rd.cons (Rd.dget (Rd.var (by walk_at "vr") (Rd.var (by walk_at "vr") ?_))))))))))
      refine Rd.dget2 (by walk_at "hp") (by walk_at "dl") ?_
      with_reducible refine Rd.nil ?_
      refine in_is_part (fun cdv Ar outer s hr => ?_) rfl
      have hu := hu_of hr
      refine ⟨_, (pss_cons (ps_if (pt_cmpR op_eq (pv 0) pe_str (nomark _)) (pss_one ps_never) pss_nil)
            (pss_cons (ps_if (pt_cmpR op_eq (pv 0) pe_str (nomark _)) (pss_one ps_never) pss_nil)
            (pss_one (ps_ret (pe_call (ok_is_word_of T) (hr.mono (by decide)) (by rfl) T.m_is_word_of T.F_is_word_of.kp T.b_is_word_of .nil pass0 (pa_cons (pv 1) (pa_cons (pe_ix ix_kdict (pe_glob (v := .ref A.t_PART_WORDS) rfl T.m_PART_WORDS rfl) (pv 0) (fun _ _ => rfl)) pa_nil))))))), ?_⟩
      try dsimp only [L2.cxOf, L2.Cx.nox, L2.Cx.wish]
      with_reducible refine Rd.seq (Rd.ifS (Rd.test (Rd.op (Rd.var (by walk_at "vr") (Rd.c (Rd.eqS (by walk_at "vr") (Rd.bl (Rd.iteF (by first | with_unfolding_all rfl | walk_at "bF") (Rd.next (Rd.seq (Rd.ifS ?_)))))))))))
      with_reducible refine Rd.test (Rd.op (Rd.var (by walk_at "vr") (Rd.c (Rd.eqS (by walk_at "vr") (Rd.bl (Rd.iteF (by first | with_unfolding_all rfl | walk_at "bF") (Rd.next (Rd.ret (Rd.call (Rd.cons (Rd.var (by walk_at "vr") ?_)))))))))))
      with_reducible refine Rd.cons (Rd.op (Rd.c (Rd.var (by walk_at "vr") ?_)))
      refine ⟨_, _, _, rfl, rfl, T.d_PART_WORDS_slot, ?_⟩
      with_reducible refine Rd.nil ?_
      refine in_is_word_of (fun cdv Ar outer s hr => ?_) rfl
      have hu := hu_of hr
      refine ⟨_, (pss_one (ps_ret (pe_and (pe_callB (Rd.isi (K := K) rfl) (by rfl) T.n_isinstance (by decide +kernel) (pa_cons (pv 0) (pa_cons (pe_bltn (v := .ty "str") (u := .type "str") (by rfl) T.n_str (by decide +kernel) rfl) pa_nil))) (pe_one (pe_cmpR op_in_seq (pv 0) (pv 1) (by with_unfolding_all rfl)))))), ?_⟩
      try dsimp only [L2.cxOf, L2.Cx.nox, L2.Cx.wish]
      with_reducible refine Rd.ret (Rd.andV (Rd.cB (Rd.cons (Rd.var (by walk_at "vr") (Rd.cons (Rd.c (Rd.nil ?_)))))))
      refine ⟨_, _, _, _, _, rfl, (by walk_at "clsv"), (by walk_at "tyx"), (by walk_at "kit"), ?_⟩
      with_reducible refine Rd.bl (Rd.iteT (by first | with_unfolding_all rfl | walk_at "bT") (Rd.op (Rd.var (by walk_at "vr") (Rd.var (by walk_at "vr") ?_))))
      refine Rd.inT (.inr (by walk_at "hpt")) rfl (by walk_at "flt") ?_
      with_reducible refine Rd.bl (Rd.iteF (by walk_at "bF") (Rd.next (Rd.ifS (Rd.and (Rd.test (Rd.op (Rd.var (by walk_at "vr") (Rd.c (Rd.eqS (by walk_at "vr") (Rd.bl (Rd.iteT (by first | with_unfolding_all rfl | walk_at "bT") ?_)))))))))))
      with_reducible refine Rd.and (Rd.test (Rd.op (Rd.dget (Rd.var (by walk_at "vr") (Rd.c ?_)))))
      refine Rd.dget2 (by walk_at "hp") (by walk_at "dl") ?_
      with_reducible refine Rd.c (Rd.eqS (by walk_at "vr") (Rd.bl (Rd.iteT (by walk_at "bT") (Rd.tb (Rd.cB (Rd.cons (Rd.dget (Rd.var (by walk_at "vr") (Rd.c ?_)))))))))
      refine Rd.dget2 (by walk_at "hp") (by walk_at "dl") ?_
      with_reducible refine Rd.cons (Rd.c (Rd.nil ?_))
      refine ⟨_, _, _, _, _, rfl, (by walk_at "clsv"), (by walk_at "tyx"), (by walk_at "kit"), ?_⟩
      with_reducible refine Rd.bl (Rd.iteF (by first | with_unfolding_all rfl | walk_at "bF") (Rd.next ?_))
      refine ⟨by walk_at "hpt", ?_⟩
      refine Rd.unrTCons ?_
      with_reducible refine Rd.name ?_
      dsimp only [List.set]
      with_reducible refine Rd.seq (Rd.ifS (Rd.not (Rd.tb (Rd.call (Rd.cons (Rd.var (by walk_at "vr") (Rd.cons (Rd.dget (Rd.var (by walk_at "vr") (Rd.var (by walk_at "vr") ?_))))))))))
      refine Rd.dget2 (by walk_at "hp") (by walk_at "dl") ?_
      with_reducible refine Rd.nil ?_
      refine in_is_part (fun cdv Ar outer s hr => ?_) rfl
      have hu := hu_of hr
      refine ⟨_, (pss_cons (ps_if (pt_cmpR op_eq (pv 0) pe_str (nomark _)) (pss_one ps_never) pss_nil)
            (pss_cons (ps_if (pt_cmpR op_eq (pv 0) pe_str (nomark _)) (pss_one ps_never) pss_nil)
            (pss_one (ps_ret (pe_call (ok_is_word_of T) (hr.mono (by decide)) (by rfl) T.m_is_word_of T.F_is_word_of.kp T.b_is_word_of .nil pass0 (pa_cons (pv 1) (pa_cons (pe_ix ix_kdict (pe_glob (v := .ref A.t_PART_WORDS) rfl T.m_PART_WORDS rfl) (pv 0) (fun _ _ => rfl)) pa_nil))))))), ?_⟩
      try dsimp only [L2.cxOf, L2.Cx.nox, L2.Cx.wish]
      with_reducible refine Rd.seq (Rd.ifS (Rd.test (Rd.op (Rd.var (by walk_at "vr") (Rd.c (Rd.eqS (by walk_at "vr") (Rd.bl (Rd.iteF (by first | with_unfolding_all rfl | walk_at "bF") (Rd.next (Rd.seq (Rd.ifS ?_)))))))))))
      with_reducible refine Rd.test (Rd.op (Rd.var (by walk_at "vr") (Rd.c (Rd.eqS (by walk_at "vr") (Rd.bl (Rd.iteF (by first | with_unfolding_all rfl | walk_at "bF") (Rd.next (Rd.ret (Rd.call (Rd.cons (Rd.var (by walk_at "vr") ?_)))))))))))
      with_reducible refine Rd.cons (Rd.op (Rd.c (Rd.var (by walk_at "vr") ?_)))
      refine ⟨_, _, _, rfl, rfl, T.d_PART_WORDS_empty, ?_⟩
      with_reducible refine Rd.nil ?_
      refine in_is_word_of (fun cdv Ar outer s hr => ?_) rfl
      have hu := hu_of hr
      refine ⟨_, (pss_one (ps_ret (pe_and (pe_callB (Rd.isi (K := K) rfl) (by rfl) T.n_isinstance (by decide +kernel) (pa_cons (pv 0) (pa_cons (pe_bltn (v := .ty "str") (u := .type "str") (by rfl) T.n_str (by decide +kernel) rfl) pa_nil))) (pe_one (pe_cmpR op_in_seq (pv 0) (pv 1) (by with_unfolding_all rfl)))))), ?_⟩
      try dsimp only [L2.cxOf, L2.Cx.nox, L2.Cx.wish]
      with_reducible refine Rd.ret (Rd.andV (Rd.cB (Rd.cons (Rd.var (by walk_at "vr") (Rd.cons (Rd.c (Rd.nil ?_)))))))
      refine ⟨_, _, _, _, _, rfl, (by walk_at "clsv"), (by walk_at "tyx"), (by walk_at "kit"), ?_⟩
      with_reducible refine Rd.bl (Rd.iteT (by first | with_unfolding_all rfl | walk_at "bT") (Rd.op (Rd.var (by walk_at "vr") (Rd.var (by walk_at "vr") ?_))))
      refine Rd.inT (.inr (by walk_at "hpt")) rfl (by walk_at "flt") ?_
      with_reducible refine Rd.bl (Rd.iteF (by walk_at "bF") (Rd.next (Rd.ifS (Rd.and (Rd.test (Rd.op (Rd.var (by walk_at "vr") (Rd.c (Rd.eqS (by walk_at "vr") (Rd.bl (Rd.iteF (by first | with_unfolding_all rfl | walk_at "bF") ?_)))))))))))
      with_reducible refine Rd.iteF rfl (Rd.next ?_)
      refine ⟨by walk_at "hpt", ?_⟩
      refine Rd.unrTCons ?_
      with_reducible refine Rd.name ?_
      dsimp only [List.set]
      with_reducible refine Rd.seq (Rd.ifS (Rd.not (Rd.tb (Rd.call (Rd.cons (Rd.var (by walk_at "vr") (Rd.cons (Rd.dget (Rd.var (by walk_at "vr") (Rd.var (by walk_at "vr") ?_))))))))))
      refine Rd.dget2 (by walk_at "hp") (by walk_at "dl") ?_
      with_reducible refine Rd.nil ?_
      refine in_is_part (fun cdv Ar outer s hr => ?_) rfl
      have hu := hu_of hr
      refine ⟨_, (pss_cons (ps_if (pt_cmpR op_eq (pv 0) pe_str (nomark _)) (pss_one ps_never) pss_nil)
            (pss_cons (ps_if (pt_cmpR op_eq (pv 0) pe_str (nomark _)) (pss_one (ps_ret (pe_call (ok_is_full T) (hr.mono (by decide)) (by rfl) T.m_is_full T.F_is_full.kp T.b_is_full .nil pass0 (pa_cons (pv 1) pa_nil)))) pss_nil)
            (pss_one ps_never))), ?_⟩
      try dsimp only [L2.cxOf, L2.Cx.nox, L2.Cx.wish]
      with_reducible refine Rd.seq (Rd.ifS (Rd.test (Rd.op (Rd.var (by walk_at "vr") (Rd.c (Rd.eqS (by walk_at "vr") (Rd.bl (Rd.iteF (by first | with_unfolding_all rfl | walk_at "bF") (Rd.next (Rd.seq (Rd.ifS ?_)))))))))))
      with_reducible refine Rd.test (Rd.op (Rd.var (by walk_at "vr") (Rd.c (Rd.eqS (by walk_at "vr") (Rd.bl (Rd.iteT (by first | with_unfolding_all rfl | walk_at "bT") (Rd.ret (Rd.call (Rd.cons (Rd.var (by walk_at "vr") (Rd.nil ?_)))))))))))
      refine in_is_full (fun cdv Ar outer s hr => ?_) rfl
      have hu := hu_of hr
      refine ⟨_, (pss_cons (ps_if (pt_not (pt_val (pe_callB (Rd.isi (K := K) rfl) (by rfl) T.n_isinstance (by decide +kernel) (pa_cons (pv 0) (pa_cons (pe_bltn (v := .ty "tuple") (u := .type "tuple") (by rfl) T.n_tuple (by decide +kernel) rfl) pa_nil))))) (pss_one ps_never) pss_nil)
            (pss_cons (ps_if (pt_cmpR op_eq (pe_callB call_len_seq (by rfl) T.n_len PySem.boot_len (pa_cons (pv 0) pa_nil)) pe_int (nomark _)) (pss_one ps_never) pss_nil)
            (pss_cons (ps_if (pt_cmpR op_ne (pe_callB call_len_seq (by rfl) T.n_len PySem.boot_len (pa_cons (pv 0) pa_nil)) pe_int (nomark _)) (pss_one ps_never) pss_nil)
            (pss_one (ps_ret (pe_and (pe_call (ok_is_word_of T) (hr.mono (by decide)) (by rfl) T.m_is_word_of T.F_is_word_of.kp T.b_is_word_of .nil pass0 (pa_cons (pe_ix ix_tup (pv 0) pe_int (fun _ _ => rfl)) (pa_cons (pe_glob (v := .ref A.t_MEASURES) rfl T.m_MEASURES rfl) pa_nil))) (pe_and (pe_call (ok_is_word_of T) (hr.mono (by decide)) (by rfl) T.m_is_word_of T.F_is_word_of.kp T.b_is_word_of .nil pass0 (pa_cons (pe_ix ix_tup (pv 0) pe_int (fun _ _ => rfl)) (pa_cons (pe_glob (v := .ref A.t_SIGNS) rfl T.m_SIGNS rfl) pa_nil))) (pe_one (pe_call (ok_is_small_form T) (hr.mono (by decide)) (by rfl) T.m_is_small_form T.F_is_small_form.kp T.b_is_small_form .nil pass0 (pa_cons (pe_ix ix_tup (pv 0) pe_int (fun _ _ => rfl)) pa_nil)))))))))), ?_⟩
      try dsimp only [L2.cxOf, L2.Cx.nox, L2.Cx.wish]
      with_reducible refine Rd.seq (Rd.ifS (Rd.not (Rd.tb (Rd.cB (Rd.cons (Rd.var (by walk_at "vr") (Rd.cons (Rd.c (Rd.nil ?_)))))))))
      refine ⟨_, _, _, _, _, rfl, (by walk_at "clsv"), (by walk_at "tyx"), (by walk_at "kit"), ?_⟩
      with_reducible refine Rd.bl (Rd.iteF (by first | with_unfolding_all rfl | walk_at "bF") (Rd.next (Rd.seq (Rd.ifS (Rd.test (Rd.op (Rd.cB (Rd.cons (Rd.var (by walk_at "vr") (Rd.nil (⟨_, _, rfl, (by walk_at "hpq"), ?_⟩)))))))))))
      with_reducible refine Rd.c (Rd.eqS (by walk_at "vr") (Rd.bl (Rd.iteF (by first | with_unfolding_all rfl | walk_at "bF") (Rd.next (Rd.seq (Rd.ifS (Rd.test (Rd.op (Rd.cB (Rd.cons (Rd.var (by walk_at "vr") ?_)))))))))))
      with_reducible refine Rd.nil (⟨_, _, rfl, (by walk_at "hpq"), (Rd.c (Rd.neS (by walk_at "vr") (Rd.bl (Rd.iteF (by first | with_unfolding_all rfl | walk_at "bF") (Rd.next (Rd.ret (Rd.andV (Rd.call (Rd.cons (Rd.op ?_))))))))))⟩)
      with_reducible refine Rd.var (by walk_at "vr") (Rd.c (Rd.ixT (by walk_at "hpt") (by walk_at "vr") (Rd.cons (Rd.c (Rd.nil ?_)))))
      refine in_is_word_of (fun cdv Ar outer s hr => ?_) rfl
      have hu := hu_of hr
      refine ⟨_, (pss_one (ps_ret (pe_and (pe_callB (Rd.isi (K := K) rfl) (by rfl) T.n_isinstance (by decide +kernel) (pa_cons (pv 0) (pa_cons (pe_bltn (v := .ty "str") (u := .type "str") (by rfl) T.n_str (by decide +kernel) rfl) pa_nil))) (pe_one (pe_cmpR op_in_seq (pv 0) (pv 1) (by with_unfolding_all rfl)))))), ?_⟩
      try dsimp only [L2.cxOf, L2.Cx.nox, L2.Cx.wish]
      with_reducible refine Rd.ret (Rd.andV (Rd.cB (Rd.cons (Rd.var (by walk_at "vr") (Rd.cons (Rd.c (Rd.nil ?_)))))))
      refine ⟨_, _, _, _, _, rfl, (by walk_at "clsv"), (by walk_at "tyx"), (by walk_at "kit"), ?_⟩
      with_reducible refine Rd.bl (Rd.iteT (by first | with_unfolding_all rfl | walk_at "bT") (Rd.op (Rd.var (by walk_at "vr") (Rd.var (by walk_at "vr") ?_))))
      refine Rd.inT (.inr (by walk_at "hpt")) rfl (by walk_at "flt") ?_
      with_reducible refine Rd.bl (Rd.iteT (by walk_at "bT") (Rd.andV (Rd.call (Rd.cons (Rd.op (Rd.var (by walk_at "vr") (Rd.c (Rd.ixT (by walk_at "hpt") (by walk_at "vr") (Rd.cons (Rd.c (Rd.nil ?_)))))))))))
      refine in_is_word_of (fun cdv Ar outer s hr => ?_) rfl
      have hu := hu_of hr
      refine ⟨_, (pss_one (ps_ret (pe_and (pe_callB (Rd.isi (K := K) rfl) (by rfl) T.n_isinstance (by decide +kernel) (pa_cons (pv 0) (pa_cons (pe_bltn (v := .ty "str") (u := .type "str") (by rfl) T.n_str (by decide +kernel) rfl) pa_nil))) (pe_one (pe_cmpR op_in_seq (pv 0) (pv 1) (by with_unfolding_all rfl)))))), ?_⟩
      try dsimp only [L2.cxOf, L2.Cx.nox, L2.Cx.wish]
      with_reducible refine Rd.ret (Rd.andV (Rd.cB (Rd.cons (Rd.var (by walk_at "vr") (Rd.cons (Rd.c (Rd.nil ?_)))))))
      refine ⟨_, _, _, _, _, rfl, (by walk_at "clsv"), (by walk_at "tyx"), (by walk_at "kit"), ?_⟩
      with_reducible refine Rd.bl (Rd.iteT (by first | with_unfolding_all rfl | walk_at "bT") (Rd.op (Rd.var (by walk_at "vr") (Rd.var (by walk_at "vr") ?_))))
      refine Rd.inT (.inr (by walk_at "hpt")) rfl (by walk_at "flt") ?_
      with_reducible refine Rd.bl (Rd.iteT (by walk_at "bT") (Rd.call (Rd.cons (Rd.op (Rd.var (by walk_at "vr") (Rd.c (Rd.ixT (by walk_at "hpt") (by walk_at "vr") (Rd.nil ?_))))))))
      refine in_is_small_form (fun cdv Ar outer s hr => ?_) rfl
      have hu := hu_of hr
      refine ⟨_, (pss_cons (ps_if (pt_not (pt_val (pe_callB (Rd.isi (K := K) rfl) (by rfl) T.n_isinstance (by decide +kernel) (pa_cons (pv 0) (pa_cons (pe_glob (v := .ref A.c_Form) rfl T.m_Form rfl) pa_nil))))) (pss_one ps_never) pss_nil)
            (pss_one (ps_ret (pe_and (pe_chain op_le op_le pe_int (pe_fld (pv 0) rfl) (pe_glob (v := .int (4)) rfl T.m_GREATEST_SLOPE ⟨_, rfl⟩)) (pe_one (pe_chain op_le op_le (pe_un un_neg (pe_glob (v := .int (20)) rfl T.m_GREATEST_BASE ⟨_, rfl⟩)) (pe_fld (pv 0) rfl) (pe_glob (v := .int (20)) rfl T.m_GREATEST_BASE ⟨_, rfl⟩))))))), ?_⟩
      try dsimp only [L2.cxOf, L2.Cx.nox, L2.Cx.wish]
      with_reducible refine Rd.seq (Rd.ifS (Rd.not (Rd.tb (Rd.cB (Rd.cons (Rd.var (by walk_at "vr") (Rd.cons (Rd.c (Rd.nil ?_)))))))))
      refine ⟨_, _, _, _, _, rfl, (by walk_at "clsv"), (by walk_at "tyx"), (by walk_at "kit"), ?_⟩
      with_reducible refine Rd.bl (Rd.iteF (by first | with_unfolding_all rfl | walk_at "bF") (Rd.next (Rd.ret (Rd.andV (Rd.chain (Rd.c (Rd.fld (Rd.var (by walk_at "vr") (⟨_, _, _, _, _, rfl, (by walk_at "hp"), T.k_Form, T.n_Form_slope, (by walk_at "lk"), (Rd.i0 (Rd.bl ?_))⟩)))))))))
      with_reducible refine Rd.iteT (by walk_at "bT") (Rd.c (Rd.i0 (Rd.bl (Rd.iteT (by walk_at "bT") (Rd.chain (Rd.un (Rd.c (Rd.iU (Rd.fld (Rd.var (by walk_at "vr") (⟨_, _, _, _, _, rfl, (by walk_at "hp"), T.k_Form, T.n_Form_base, (by walk_at "lk"), ?_⟩)))))))))))
      with_reducible refine Rd.i0 (Rd.bl (Rd.iteT (by walk_at "bT") (Rd.c (Rd.i0 (Rd.bl (Rd.iteF (by walk_at "bF") (Rd.next (Rd.ifS (Rd.and (Rd.test (Rd.op ?_)))))))))))
      with_reducible refine Rd.var (by walk_at "vr") (Rd.c (Rd.eqS (by walk_at "vr") (Rd.bl (Rd.iteF (by first | with_unfolding_all rfl | walk_at "bF") (Rd.iteF rfl (Rd.next ?_))))))
      refine ⟨by walk_at "hpt", ?_⟩
      refine Rd.unrTCons ?_
      with_reducible refine Rd.name ?_
      dsimp only [List.set]
      with_reducible refine Rd.seq (Rd.ifS (Rd.not (Rd.tb (Rd.call (Rd.cons (Rd.var (by walk_at "vr") (Rd.cons (Rd.dget (Rd.var (by walk_at "vr") (Rd.var (by walk_at "vr") ?_))))))))))
      refine Rd.dget2 (by walk_at "hp") (by walk_at "dl") ?_
      with_reducible refine Rd.nil ?_
      refine in_is_part (fun cdv Ar outer s hr => ?_) rfl
      have hu := hu_of hr
      refine ⟨_, (pss_cons (ps_if (pt_cmpR op_eq (pv 0) pe_str (nomark _)) (pss_one ps_never) pss_nil)
            (pss_cons (ps_if (pt_cmpR op_eq (pv 0) pe_str (nomark _)) (pss_one ps_never) pss_nil)
            (pss_one (ps_ret (pe_call (ok_is_word_of T) (hr.mono (by decide)) (by rfl) T.m_is_word_of T.F_is_word_of.kp T.b_is_word_of .nil pass0 (pa_cons (pv 1) (pa_cons (pe_ix ix_kdict (pe_glob (v := .ref A.t_PART_WORDS) rfl T.m_PART_WORDS rfl) (pv 0) (fun _ _ => rfl)) pa_nil))))))), ?_⟩
      try dsimp only [L2.cxOf, L2.Cx.nox, L2.Cx.wish]
      with_reducible refine Rd.seq (Rd.ifS (Rd.test (Rd.op (Rd.var (by walk_at "vr") (Rd.c (Rd.eqS (by walk_at "vr") (Rd.bl (Rd.iteF (by first | with_unfolding_all rfl | walk_at "bF") (Rd.next (Rd.seq (Rd.ifS ?_)))))))))))
      with_reducible refine Rd.test (Rd.op (Rd.var (by walk_at "vr") (Rd.c (Rd.eqS (by walk_at "vr") (Rd.bl (Rd.iteF (by first | with_unfolding_all rfl | walk_at "bF") (Rd.next (Rd.ret (Rd.call (Rd.cons (Rd.var (by walk_at "vr") ?_)))))))))))
      with_reducible refine Rd.cons (Rd.op (Rd.c (Rd.var (by walk_at "vr") ?_)))
      refine ⟨_, _, _, rfl, rfl, T.d_PART_WORDS_when, ?_⟩
      with_reducible refine Rd.nil ?_
      refine in_is_word_of (fun cdv Ar outer s hr => ?_) rfl
      have hu := hu_of hr
      refine ⟨_, (pss_one (ps_ret (pe_and (pe_callB (Rd.isi (K := K) rfl) (by rfl) T.n_isinstance (by decide +kernel) (pa_cons (pv 0) (pa_cons (pe_bltn (v := .ty "str") (u := .type "str") (by rfl) T.n_str (by decide +kernel) rfl) pa_nil))) (pe_one (pe_cmpR op_in_seq (pv 0) (pv 1) (by with_unfolding_all rfl)))))), ?_⟩
      try dsimp only [L2.cxOf, L2.Cx.nox, L2.Cx.wish]
      with_reducible refine Rd.ret (Rd.andV (Rd.cB (Rd.cons (Rd.var (by walk_at "vr") (Rd.cons (Rd.c (Rd.nil ?_)))))))
      refine ⟨_, _, _, _, _, rfl, (by walk_at "clsv"), (by walk_at "tyx"), (by walk_at "kit"), ?_⟩
      with_reducible refine Rd.bl (Rd.iteT (by first | with_unfolding_all rfl | walk_at "bT") (Rd.op (Rd.var (by walk_at "vr") (Rd.var (by walk_at "vr") ?_))))
      refine Rd.inT (.inr (by walk_at "hpt")) rfl (by walk_at "flt") ?_
      with_reducible refine Rd.bl (Rd.iteF (by walk_at "bF") (Rd.next (Rd.ifS (Rd.and (Rd.test (Rd.op (Rd.var (by walk_at "vr") (Rd.c (Rd.eqS (by walk_at "vr") (Rd.bl (Rd.iteF (by first | with_unfolding_all rfl | walk_at "bF") ?_)))))))))))
      with_reducible refine Rd.iteF rfl (Rd.next ?_)
      refine ⟨by walk_at "hpt", ?_⟩
      refine Rd.unrTNil ?_
      with_reducible refine Rd.ret (Rd.c (Rd.name (Rd.seq (Rd.ifS (Rd.test (Rd.op (Rd.var (by walk_at "vr") (Rd.c (⟨rfl, (Rd.bl (Rd.iteF (by first | with_unfolding_all rfl | walk_at "bF") ?_))⟩)))))))))
      with_reducible refine Rd.next (Rd.sfld (Rd.var (by walk_at "vr") (Rd.var (by walk_at "vr") (⟨_, _, _, _, rfl, (by walk_at "hp"), T.k_Scheme, T.n_Scheme_parts, (by walk_at "sfl"), ?_⟩))))
      rw [fS_put]
      exact k _ _ (by walk_at "frm") (by assumption) L2.upd_same (by walk_at "hp")
    · have hw : vw = .int w := hw
      subst hw
      have w1 : 1 ≤ w ∧ w ≤ 100 := w1
      obtain ⟨pf, qf, dqf, rfl, hpf, hqf⟩ := hf
      obtain ⟨f1, f2, f3⟩ := w4
      have i4 : inV (.str kk) [.str "diff", .str "count"] = true := Rd.inW (ws := ["diff", "count"]) f1
      have i5 : inV (.str g) [.str "=", .str ">="] = true := Rd.inW (ws := ["=", ">="]) f2
      have i2 : (!inV (.str sl) [.str "rest", .str "off", .str "mask"]) = false := Rd.notF (Rd.inW (ws := ["rest", "off", "mask"]) w2)
      have i3 : (!inV (.str em) [.str "same", .str "count", .str "note"]) = false := Rd.notF (Rd.inW (ws := ["same", "count", "note"]) w3)
      have i6 : (!inV (.str wn) [.str "refuse", .str "drop", .str "over"]) = false := Rd.notF (Rd.inW (ws := ["refuse", "drop", "over"]) w5)
      have m1 : decide (V.str sl = V.str "mask") = false := nmask hm
      refine ⟨_, (pss_cons (ps_set (i := 6) sc_Schemeu__initu_.nd rfl (Or.inl rfl) (pe_disp (pps_cons pe_str (pv 1) (pps_cons pe_str (pv 2) (pps_cons pe_str (pv 3) (pps_cons pe_str (pv 4) (pps_cons pe_str (pv 5) pps_nil))))) rfl rfl (by simp) (by decide)))
      (pss_cons (ps_set (i := 7) sc_Schemeu__initu_.nd rfl (Or.inl rfl) (pe_call (ok_first_wrong T) (hr.mono (by decide)) (by rfl) T.m_first_wrong T.F_first_wrong.kp T.b_first_wrong .nil pass0 (pa_cons (pv 6) pa_nil)))
      (pss_cons (ps_if (pt_cmpR op_notN (pv 7) pe_non (nomark _)) (pss_one ps_never) pss_nil)
      (pss_one (ps_fld (pv 0) (pv 6) rfl))))), ?_⟩
      try dsimp only [L2.cxOf, L2.Cx.nox, L2.Cx.wish]
      with_reducible refine Rd.seq (Rd.asg ?_)
      refine Rd.disp5 (fun _ _ h => Rd.var (by walk_at "vr") h) (fun _ _ h => Rd.var (by walk_at "vr") h) (fun _ _ h => Rd.var (by walk_at "vr") h) (fun _ _ h => Rd.var (by walk_at "vr") h) (fun _ _ h => Rd.var (by walk_at "vr") h) ?_
      intro pd241_16 npd241_16
      rw [kvP_merge]
      with_reducible refine Rd.name (Rd.seq (Rd.asg (Rd.call (Rd.cons (Rd.var (by walk_at "vr") (Rd.nil ?_))))))
      refine in_first_wrong (fun cdv Ar outer s hr => ?_) rfl
      have hu := hu_of hr
      refine ⟨_, (pss_cons (ps_for PassesOwn.never rfl (pi_tup (pe_glob (v := .ref A.t_PART_NAMES) rfl T.m_PART_NAMES rfl)) (pg_name (i := 1) sc_first_wrong.nd rfl (Or.inl rfl)) (pss_cons (ps_if (pt_not (pt_val (pe_call (ok_is_part T) (hr.mono (by decide)) (by rfl) T.m_is_part T.F_is_part.kp T.b_is_part .nil pass0 (pa_cons (pv 1) (pa_cons (pe_dget hu (pv 0) (pv 1) (fun _ _ => rfl)) pa_nil))))) (pss_one ps_never) pss_nil) (pss_one (ps_if (PW.pt (pw_and (pt_cmpR op_eq (pv 1) pe_str (nomark _)) (pw_and (pt_cmpR op_eq (pe_dget hu (pv 0) pe_str (fun _ _ => rfl)) pe_str (nomark _)) (pw_and1 Rd.ptN)))) (pss_one ps_never) pss_nil))))
            (pss_one (ps_ret pe_non))), ?_⟩
      try dsimp only [L2.cxOf, L2.Cx.nox, L2.Cx.wish]
      with_reducible refine Rd.seq (Rd.fr (Rd.it (Rd.c (⟨_, rfl, ?_⟩))))
      refine Rd.unrollT (by walk_at "hpt") ?_
      refine Rd.unrTCons ?_
      with_reducible refine Rd.name ?_
      dsimp only [List.set]
      with_reducible refine Rd.seq (Rd.ifS (Rd.not (Rd.tb (Rd.call (Rd.cons (Rd.var (by walk_at "vr") (Rd.cons (Rd.dget (Rd.var (by walk_at "vr") (Rd.var (by walk_at "vr") ?_))))))))))
      refine Rd.dget2 (by walk_at "hp") (by walk_at "dl") ?_
      with_reducible refine Rd.nil ?_
      refine in_is_part (fun cdv Ar outer s hr => ?_) rfl
      have hu := hu_of hr
      refine ⟨_, (pss_cons (ps_if (pt_cmpR op_eq (pv 0) pe_str (nomark _)) (pss_one (ps_ret (pe_call (ok_is_wrap T) (hr.mono (by decide)) (by rfl) T.m_is_wrap T.F_is_wrap.kp T.b_is_wrap .nil pass0 (pa_cons (pv 1) pa_nil)))) pss_nil)
            (pss_cons ps_never (pss_one ps_never))), ?_⟩
      try dsimp only [L2.cxOf, L2.Cx.nox, L2.Cx.wish]
      with_reducible refine Rd.seq (Rd.ifS (Rd.test (Rd.op (Rd.var (by walk_at "vr") (Rd.c (Rd.eqS (by walk_at "vr") (Rd.bl (Rd.iteT (by first | with_unfolding_all rfl | walk_at "bT") (Rd.ret (Rd.call (Rd.cons ?_)))))))))))
      with_reducible refine Rd.var (by walk_at "vr") (Rd.nil ?_)
      refine in_is_wrap (fun cdv Ar outer s hr => ?_) rfl
      have hu := hu_of hr
      refine ⟨_, (pss_one (ps_ret (pe_or (pe_call (ok_is_small_form T) (hr.mono (by decide)) (by rfl) T.m_is_small_form T.F_is_small_form.kp T.b_is_small_form .nil pass0 (pa_cons (pv 0) pa_nil)) (pe_one (pe_call (ok_is_whole_from T) (hr.mono (by decide)) (by rfl) T.m_is_whole_from T.F_is_whole_from.kp T.b_is_whole_from .nil pass0 (pa_cons (pv 0) (pa_cons pe_int (pa_cons (pe_glob (v := .int (100)) rfl T.m_GREATEST_WIDTH ⟨_, rfl⟩) pa_nil)))))))), ?_⟩
      try dsimp only [L2.cxOf, L2.Cx.nox, L2.Cx.wish]
      with_reducible refine Rd.ret (Rd.orV (Rd.call (Rd.cons (Rd.var (by walk_at "vr") (Rd.nil ?_)))))
      refine in_is_small_form (fun cdv Ar outer s hr => ?_) rfl
      have hu := hu_of hr
      refine ⟨_, (pss_cons (ps_if (pt_not (pt_val (pe_callB (Rd.isi (K := K) rfl) (by rfl) T.n_isinstance (by decide +kernel) (pa_cons (pv 0) (pa_cons (pe_glob (v := .ref A.c_Form) rfl T.m_Form rfl) pa_nil))))) (pss_one (ps_ret pe_bl)) pss_nil)
            (pss_one ps_never)), ?_⟩
      try dsimp only [L2.cxOf, L2.Cx.nox, L2.Cx.wish]
      with_reducible refine Rd.seq (Rd.ifS (Rd.not (Rd.tb (Rd.cB (Rd.cons (Rd.var (by walk_at "vr") (Rd.cons (Rd.c (Rd.nil ?_)))))))))
      refine ⟨_, _, _, _, _, rfl, (by walk_at "clsv"), (by walk_at "tyx"), (by walk_at "kit"), ?_⟩
      with_reducible refine Rd.bl (Rd.iteT (by first | with_unfolding_all rfl | walk_at "bT") (Rd.ret (Rd.c (Rd.bl (Rd.iteF (by first | with_unfolding_all rfl | walk_at "bF") (Rd.call (Rd.cons (Rd.var (by walk_at "vr") (Rd.cons (Rd.c (Rd.cons ?_)))))))))))
      with_reducible refine Rd.c (Rd.nil ?_)
      refine ⟨_, _, _, rfl, (by walk_at "sc"), (by walk_at "sc"), ?_⟩
      with_reducible refine Rd.bl (Rd.iteF (by walk_at "bF") (Rd.next (Rd.ifS (Rd.and (Rd.test (Rd.op (Rd.var (by walk_at "vr") (Rd.c (Rd.eqS (by walk_at "vr") (Rd.bl (Rd.iteF (by first | with_unfolding_all rfl | walk_at "bF") ?_)))))))))))
      with_reducible refine Rd.iteF rfl (Rd.next ?_)
      refine ⟨by walk_at "hpt", ?_⟩
      refine Rd.unrTCons ?_
      with_reducible refine Rd.name ?_
      dsimp only [List.set]
      with_reducible refine Rd.seq (Rd.ifS (Rd.not (Rd.tb (Rd.call (Rd.cons (Rd.var (by walk_at "vr") (Rd.cons (Rd.dget (Rd.var (by walk_at "vr") (Rd.var (by walk_at "vr") ?_))))))))))
      refine Rd.dget2 (by walk_at "hp") (by walk_at "dl") ?_
      with_reducible refine Rd.nil ?_
      refine in_is_part (fun cdv Ar outer s hr => ?_) rfl
      have hu := hu_of hr
      refine ⟨_, (pss_cons (ps_if (pt_cmpR op_eq (pv 0) pe_str (nomark _)) (pss_one ps_never) pss_nil)
            (pss_cons (ps_if (pt_cmpR op_eq (pv 0) pe_str (nomark _)) (pss_one ps_never) pss_nil)
            (pss_one (ps_ret (pe_call (ok_is_word_of T) (hr.mono (by decide)) (by rfl) T.m_is_word_of T.F_is_word_of.kp T.b_is_word_of .nil pass0 (pa_cons (pv 1) (pa_cons (pe_ix ix_kdict (pe_glob (v := .ref A.t_PART_WORDS) rfl T.m_PART_WORDS rfl) (pv 0) (fun _ _ => rfl)) pa_nil))))))), ?_⟩
      try dsimp only [L2.cxOf, L2.Cx.nox, L2.Cx.wish]
      with_reducible refine Rd.seq (Rd.ifS (Rd.test (Rd.op (Rd.var (by walk_at "vr") (Rd.c (Rd.eqS (by walk_at "vr") (Rd.bl (Rd.iteF (by first | with_unfolding_all rfl | walk_at "bF") (Rd.next (Rd.seq (Rd.ifS ?_)))))))))))
      with_reducible refine Rd.test (Rd.op (Rd.var (by walk_at "vr") (Rd.c (Rd.eqS (by walk_at "vr") (Rd.bl (Rd.iteF (by first | with_unfolding_all rfl | walk_at "bF") (Rd.next (Rd.ret (Rd.call (Rd.cons (Rd.var (by walk_at "vr") ?_)))))))))))
      with_reducible refine Rd.cons (Rd.op (Rd.c (Rd.var (by walk_at "vr") ?_)))
      refine ⟨_, _, _, rfl, rfl, T.d_PART_WORDS_slot, ?_⟩
      with_reducible refine Rd.nil ?_
      refine in_is_word_of (fun cdv Ar outer s hr => ?_) rfl
      have hu := hu_of hr
      refine ⟨_, (pss_one (ps_ret (pe_and (pe_callB (Rd.isi (K := K) rfl) (by rfl) T.n_isinstance (by decide +kernel) (pa_cons (pv 0) (pa_cons (pe_bltn (v := .ty "str") (u := .type "str") (by rfl) T.n_str (by decide +kernel) rfl) pa_nil))) (pe_one (pe_cmpR op_in_seq (pv 0) (pv 1) (by with_unfolding_all rfl)))))), ?_⟩
      try dsimp only [L2.cxOf, L2.Cx.nox, L2.Cx.wish]
      with_reducible refine Rd.ret (Rd.andV (Rd.cB (Rd.cons (Rd.var (by walk_at "vr") (Rd.cons (Rd.c (Rd.nil ?_)))))))
      refine ⟨_, _, _, _, _, rfl, (by walk_at "clsv"), (by walk_at "tyx"), (by walk_at "kit"), ?_⟩
      with_reducible refine Rd.bl (Rd.iteT (by first | with_unfolding_all rfl | walk_at "bT") (Rd.op (Rd.var (by walk_at "vr") (Rd.var (by walk_at "vr") ?_))))
      refine Rd.inT (.inr (by walk_at "hpt")) rfl (by walk_at "flt") ?_
      with_reducible refine Rd.bl (Rd.iteF (by walk_at "bF") (Rd.next (Rd.ifS (Rd.and (Rd.test (Rd.op (Rd.var (by walk_at "vr") (Rd.c (Rd.eqS (by walk_at "vr") (Rd.bl (Rd.iteT (by first | with_unfolding_all rfl | walk_at "bT") ?_)))))))))))
      with_reducible refine Rd.and (Rd.test (Rd.op (Rd.dget (Rd.var (by walk_at "vr") (Rd.c ?_)))))
      refine Rd.dget2 (by walk_at "hp") (by walk_at "dl") ?_
      with_reducible refine Rd.c (Rd.eqS (by walk_at "vr") (Rd.bl (Rd.iteF (by walk_at "bF") (Rd.iteF rfl (Rd.next ?_)))))
      refine ⟨by walk_at "hpt", ?_⟩
      refine Rd.unrTCons ?_
      with_reducible refine Rd.name ?_
      dsimp only [List.set]
      with_reducible refine Rd.seq (Rd.ifS (Rd.not (Rd.tb (Rd.call (Rd.cons (Rd.var (by walk_at "vr") (Rd.cons (Rd.dget (Rd.var (by walk_at "vr") (Rd.var (by walk_at "vr") ?_))))))))))
      refine Rd.dget2 (by walk_at "hp") (by walk_at "dl") ?_
      with_reducible refine Rd.nil ?_
      refine in_is_part (fun cdv Ar outer s hr => ?_) rfl
      have hu := hu_of hr
      refine ⟨_, (pss_cons (ps_if (pt_cmpR op_eq (pv 0) pe_str (nomark _)) (pss_one ps_never) pss_nil)
            (pss_cons (ps_if (pt_cmpR op_eq (pv 0) pe_str (nomark _)) (pss_one ps_never) pss_nil)
            (pss_one (ps_ret (pe_call (ok_is_word_of T) (hr.mono (by decide)) (by rfl) T.m_is_word_of T.F_is_word_of.kp T.b_is_word_of .nil pass0 (pa_cons (pv 1) (pa_cons (pe_ix ix_kdict (pe_glob (v := .ref A.t_PART_WORDS) rfl T.m_PART_WORDS rfl) (pv 0) (fun _ _ => rfl)) pa_nil))))))), ?_⟩
      try dsimp only [L2.cxOf, L2.Cx.nox, L2.Cx.wish]
      with_reducible refine Rd.seq (Rd.ifS (Rd.test (Rd.op (Rd.var (by walk_at "vr") (Rd.c (Rd.eqS (by walk_at "vr") (Rd.bl (Rd.iteF (by first | with_unfolding_all rfl | walk_at "bF") (Rd.next (Rd.seq (Rd.ifS ?_)))))))))))
      with_reducible refine Rd.test (Rd.op (Rd.var (by walk_at "vr") (Rd.c (Rd.eqS (by walk_at "vr") (Rd.bl (Rd.iteF (by first | with_unfolding_all rfl | walk_at "bF") (Rd.next (Rd.ret (Rd.call (Rd.cons (Rd.var (by walk_at "vr") ?_)))))))))))
      with_reducible refine Rd.cons (Rd.op (Rd.c (Rd.var (by walk_at "vr") ?_)))
      refine ⟨_, _, _, rfl, rfl, T.d_PART_WORDS_empty, ?_⟩
      with_reducible refine Rd.nil ?_
      refine in_is_word_of (fun cdv Ar outer s hr => ?_) rfl
      have hu := hu_of hr
      refine ⟨_, (pss_one (ps_ret (pe_and (pe_callB (Rd.isi (K := K) rfl) (by rfl) T.n_isinstance (by decide +kernel) (pa_cons (pv 0) (pa_cons (pe_bltn (v := .ty "str") (u := .type "str") (by rfl) T.n_str (by decide +kernel) rfl) pa_nil))) (pe_one (pe_cmpR op_in_seq (pv 0) (pv 1) (by with_unfolding_all rfl)))))), ?_⟩
      try dsimp only [L2.cxOf, L2.Cx.nox, L2.Cx.wish]
      with_reducible refine Rd.ret (Rd.andV (Rd.cB (Rd.cons (Rd.var (by walk_at "vr") (Rd.cons (Rd.c (Rd.nil ?_)))))))
      refine ⟨_, _, _, _, _, rfl, (by walk_at "clsv"), (by walk_at "tyx"), (by walk_at "kit"), ?_⟩
      with_reducible refine Rd.bl (Rd.iteT (by first | with_unfolding_all rfl | walk_at "bT") (Rd.op (Rd.var (by walk_at "vr") (Rd.var (by walk_at "vr") ?_))))
      refine Rd.inT (.inr (by walk_at "hpt")) rfl (by walk_at "flt") ?_
      with_reducible refine Rd.bl (Rd.iteF (by walk_at "bF") (Rd.next (Rd.ifS (Rd.and (Rd.test (Rd.op (Rd.var (by walk_at "vr") (Rd.c (Rd.eqS (by walk_at "vr") (Rd.bl (Rd.iteF (by first | with_unfolding_all rfl | walk_at "bF") ?_)))))))))))
      with_reducible refine Rd.iteF rfl (Rd.next ?_)
      refine ⟨by walk_at "hpt", ?_⟩
      refine Rd.unrTCons ?_
      with_reducible refine Rd.name ?_
      dsimp only [List.set]
      with_reducible refine Rd.seq (Rd.ifS (Rd.not (Rd.tb (Rd.call (Rd.cons (Rd.var (by walk_at "vr") (Rd.cons (Rd.dget (Rd.var (by walk_at "vr") (Rd.var (by walk_at "vr") ?_))))))))))
      refine Rd.dget2 (by walk_at "hp") (by walk_at "dl") ?_
      with_reducible refine Rd.nil ?_
      refine in_is_part (fun cdv Ar outer s hr => ?_) rfl
      have hu := hu_of hr
      refine ⟨_, (pss_cons (ps_if (pt_cmpR op_eq (pv 0) pe_str (nomark _)) (pss_one ps_never) pss_nil)
            (pss_cons (ps_if (pt_cmpR op_eq (pv 0) pe_str (nomark _)) (pss_one (ps_ret (pe_call (ok_is_full T) (hr.mono (by decide)) (by rfl) T.m_is_full T.F_is_full.kp T.b_is_full .nil pass0 (pa_cons (pv 1) pa_nil)))) pss_nil)
            (pss_one ps_never))), ?_⟩
      try dsimp only [L2.cxOf, L2.Cx.nox, L2.Cx.wish]
      with_reducible refine Rd.seq (Rd.ifS (Rd.test (Rd.op (Rd.var (by walk_at "vr") (Rd.c (Rd.eqS (by walk_at "vr") (Rd.bl (Rd.iteF (by first | with_unfolding_all rfl | walk_at "bF") (Rd.next (Rd.seq (Rd.ifS ?_)))))))))))
      with_reducible refine Rd.test (Rd.op (Rd.var (by walk_at "vr") (Rd.c (Rd.eqS (by walk_at "vr") (Rd.bl (Rd.iteT (by first | with_unfolding_all rfl | walk_at "bT") (Rd.ret (Rd.call (Rd.cons (Rd.var (by walk_at "vr") (Rd.nil ?_)))))))))))
      refine in_is_full (fun cdv Ar outer s hr => ?_) rfl
      have hu := hu_of hr
      refine ⟨_, (pss_cons (ps_if (pt_not (pt_val (pe_callB (Rd.isi (K := K) rfl) (by rfl) T.n_isinstance (by decide +kernel) (pa_cons (pv 0) (pa_cons (pe_bltn (v := .ty "tuple") (u := .type "tuple") (by rfl) T.n_tuple (by decide +kernel) rfl) pa_nil))))) (pss_one ps_never) pss_nil)
            (pss_cons (ps_if (pt_cmpR op_eq (pe_callB call_len_seq (by rfl) T.n_len PySem.boot_len (pa_cons (pv 0) pa_nil)) pe_int (nomark _)) (pss_one ps_never) pss_nil)
            (pss_cons (ps_if (pt_cmpR op_ne (pe_callB call_len_seq (by rfl) T.n_len PySem.boot_len (pa_cons (pv 0) pa_nil)) pe_int (nomark _)) (pss_one ps_never) pss_nil)
            (pss_one (ps_ret (pe_and (pe_call (ok_is_word_of T) (hr.mono (by decide)) (by rfl) T.m_is_word_of T.F_is_word_of.kp T.b_is_word_of .nil pass0 (pa_cons (pe_ix ix_tup (pv 0) pe_int (fun _ _ => rfl)) (pa_cons (pe_glob (v := .ref A.t_MEASURES) rfl T.m_MEASURES rfl) pa_nil))) (pe_and (pe_call (ok_is_word_of T) (hr.mono (by decide)) (by rfl) T.m_is_word_of T.F_is_word_of.kp T.b_is_word_of .nil pass0 (pa_cons (pe_ix ix_tup (pv 0) pe_int (fun _ _ => rfl)) (pa_cons (pe_glob (v := .ref A.t_SIGNS) rfl T.m_SIGNS rfl) pa_nil))) (pe_one (pe_call (ok_is_small_form T) (hr.mono (by decide)) (by rfl) T.m_is_small_form T.F_is_small_form.kp T.b_is_small_form .nil pass0 (pa_cons (pe_ix ix_tup (pv 0) pe_int (fun _ _ => rfl)) pa_nil)))))))))), ?_⟩
      try dsimp only [L2.cxOf, L2.Cx.nox, L2.Cx.wish]
      with_reducible refine Rd.seq (Rd.ifS (Rd.not (Rd.tb (Rd.cB (Rd.cons (Rd.var (by walk_at "vr") (Rd.cons (Rd.c (Rd.nil ?_)))))))))
      refine ⟨_, _, _, _, _, rfl, (by walk_at "clsv"), (by walk_at "tyx"), (by walk_at "kit"), ?_⟩
      with_reducible refine Rd.bl (Rd.iteF (by first | with_unfolding_all rfl | walk_at "bF") (Rd.next (Rd.seq (Rd.ifS (Rd.test (Rd.op (Rd.cB (Rd.cons (Rd.var (by walk_at "vr") (Rd.nil (⟨_, _, rfl, (by walk_at "hpq"), ?_⟩)))))))))))
      with_reducible refine Rd.c (Rd.eqS (by walk_at "vr") (Rd.bl (Rd.iteF (by first | with_unfolding_all rfl | walk_at "bF") (Rd.next (Rd.seq (Rd.ifS (Rd.test (Rd.op (Rd.cB (Rd.cons (Rd.var (by walk_at "vr") ?_)))))))))))
      with_reducible refine Rd.nil (⟨_, _, rfl, (by walk_at "hpq"), (Rd.c (Rd.neS (by walk_at "vr") (Rd.bl (Rd.iteF (by first | with_unfolding_all rfl | walk_at "bF") (Rd.next (Rd.ret (Rd.andV (Rd.call (Rd.cons (Rd.op ?_))))))))))⟩)
      with_reducible refine Rd.var (by walk_at "vr") (Rd.c (Rd.ixT (by walk_at "hpt") (by walk_at "vr") (Rd.cons (Rd.c (Rd.nil ?_)))))
      refine in_is_word_of (fun cdv Ar outer s hr => ?_) rfl
      have hu := hu_of hr
      refine ⟨_, (pss_one (ps_ret (pe_and (pe_callB (Rd.isi (K := K) rfl) (by rfl) T.n_isinstance (by decide +kernel) (pa_cons (pv 0) (pa_cons (pe_bltn (v := .ty "str") (u := .type "str") (by rfl) T.n_str (by decide +kernel) rfl) pa_nil))) (pe_one (pe_cmpR op_in_seq (pv 0) (pv 1) (by with_unfolding_all rfl)))))), ?_⟩
      try dsimp only [L2.cxOf, L2.Cx.nox, L2.Cx.wish]
      with_reducible refine Rd.ret (Rd.andV (Rd.cB (Rd.cons (Rd.var (by walk_at "vr") (Rd.cons (Rd.c (Rd.nil ?_)))))))
      refine ⟨_, _, _, _, _, rfl, (by walk_at "clsv"), (by walk_at "tyx"), (by walk_at "kit"), ?_⟩
      with_reducible refine Rd.bl (Rd.iteT (by first | with_unfolding_all rfl | walk_at "bT") (Rd.op (Rd.var (by walk_at "vr") (Rd.var (by walk_at "vr") ?_))))
      refine Rd.inT (.inr (by walk_at "hpt")) rfl (by walk_at "flt") ?_
      with_reducible refine Rd.bl (Rd.iteT (by walk_at "bT") (Rd.andV (Rd.call (Rd.cons (Rd.op (Rd.var (by walk_at "vr") (Rd.c (Rd.ixT (by walk_at "hpt") (by walk_at "vr") (Rd.cons (Rd.c (Rd.nil ?_)))))))))))
      refine in_is_word_of (fun cdv Ar outer s hr => ?_) rfl
      have hu := hu_of hr
      refine ⟨_, (pss_one (ps_ret (pe_and (pe_callB (Rd.isi (K := K) rfl) (by rfl) T.n_isinstance (by decide +kernel) (pa_cons (pv 0) (pa_cons (pe_bltn (v := .ty "str") (u := .type "str") (by rfl) T.n_str (by decide +kernel) rfl) pa_nil))) (pe_one (pe_cmpR op_in_seq (pv 0) (pv 1) (by with_unfolding_all rfl)))))), ?_⟩
      try dsimp only [L2.cxOf, L2.Cx.nox, L2.Cx.wish]
      with_reducible refine Rd.ret (Rd.andV (Rd.cB (Rd.cons (Rd.var (by walk_at "vr") (Rd.cons (Rd.c (Rd.nil ?_)))))))
      refine ⟨_, _, _, _, _, rfl, (by walk_at "clsv"), (by walk_at "tyx"), (by walk_at "kit"), ?_⟩
      with_reducible refine Rd.bl (Rd.iteT (by first | with_unfolding_all rfl | walk_at "bT") (Rd.op (Rd.var (by walk_at "vr") (Rd.var (by walk_at "vr") ?_))))
      refine Rd.inT (.inr (by walk_at "hpt")) rfl (by walk_at "flt") ?_
      with_reducible refine Rd.bl (Rd.iteT (by walk_at "bT") (Rd.call (Rd.cons (Rd.op (Rd.var (by walk_at "vr") (Rd.c (Rd.ixT (by walk_at "hpt") (by walk_at "vr") (Rd.nil ?_))))))))
      refine in_is_small_form (fun cdv Ar outer s hr => ?_) rfl
      have hu := hu_of hr
      refine ⟨_, (pss_cons (ps_if (pt_not (pt_val (pe_callB (Rd.isi (K := K) rfl) (by rfl) T.n_isinstance (by decide +kernel) (pa_cons (pv 0) (pa_cons (pe_glob (v := .ref A.c_Form) rfl T.m_Form rfl) pa_nil))))) (pss_one ps_never) pss_nil)
            (pss_one (ps_ret (pe_and (pe_chain op_le op_le pe_int (pe_fld (pv 0) rfl) (pe_glob (v := .int (4)) rfl T.m_GREATEST_SLOPE ⟨_, rfl⟩)) (pe_one (pe_chain op_le op_le (pe_un un_neg (pe_glob (v := .int (20)) rfl T.m_GREATEST_BASE ⟨_, rfl⟩)) (pe_fld (pv 0) rfl) (pe_glob (v := .int (20)) rfl T.m_GREATEST_BASE ⟨_, rfl⟩))))))), ?_⟩
      try dsimp only [L2.cxOf, L2.Cx.nox, L2.Cx.wish]
      with_reducible refine Rd.seq (Rd.ifS (Rd.not (Rd.tb (Rd.cB (Rd.cons (Rd.var (by walk_at "vr") (Rd.cons (Rd.c (Rd.nil ?_)))))))))
      refine ⟨_, _, _, _, _, rfl, (by walk_at "clsv"), (by walk_at "tyx"), (by walk_at "kit"), ?_⟩
      with_reducible refine Rd.bl (Rd.iteF (by first | with_unfolding_all rfl | walk_at "bF") (Rd.next (Rd.ret (Rd.andV (Rd.chain (Rd.c (Rd.fld (Rd.var (by walk_at "vr") (⟨_, _, _, _, _, rfl, (by walk_at "hp"), T.k_Form, T.n_Form_slope, (by walk_at "lk"), (Rd.i0 (Rd.bl ?_))⟩)))))))))
      with_reducible refine Rd.iteT (by walk_at "bT") (Rd.c (Rd.i0 (Rd.bl (Rd.iteT (by walk_at "bT") (Rd.chain (Rd.un (Rd.c (Rd.iU (Rd.fld (Rd.var (by walk_at "vr") (⟨_, _, _, _, _, rfl, (by walk_at "hp"), T.k_Form, T.n_Form_base, (by walk_at "lk"), ?_⟩)))))))))))
      with_reducible refine Rd.i0 (Rd.bl (Rd.iteT (by walk_at "bT") (Rd.c (Rd.i0 (Rd.bl (Rd.iteF (by walk_at "bF") (Rd.next (Rd.ifS (Rd.and (Rd.test (Rd.op ?_)))))))))))
      with_reducible refine Rd.var (by walk_at "vr") (Rd.c (Rd.eqS (by walk_at "vr") (Rd.bl (Rd.iteF (by first | with_unfolding_all rfl | walk_at "bF") (Rd.iteF rfl (Rd.next ?_))))))
      refine ⟨by walk_at "hpt", ?_⟩
      refine Rd.unrTCons ?_
      with_reducible refine Rd.name ?_
      dsimp only [List.set]
      with_reducible refine Rd.seq (Rd.ifS (Rd.not (Rd.tb (Rd.call (Rd.cons (Rd.var (by walk_at "vr") (Rd.cons (Rd.dget (Rd.var (by walk_at "vr") (Rd.var (by walk_at "vr") ?_))))))))))
      refine Rd.dget2 (by walk_at "hp") (by walk_at "dl") ?_
      with_reducible refine Rd.nil ?_
      refine in_is_part (fun cdv Ar outer s hr => ?_) rfl
      have hu := hu_of hr
      refine ⟨_, (pss_cons (ps_if (pt_cmpR op_eq (pv 0) pe_str (nomark _)) (pss_one ps_never) pss_nil)
            (pss_cons (ps_if (pt_cmpR op_eq (pv 0) pe_str (nomark _)) (pss_one ps_never) pss_nil)
            (pss_one (ps_ret (pe_call (ok_is_word_of T) (hr.mono (by decide)) (by rfl) T.m_is_word_of T.F_is_word_of.kp T.b_is_word_of .nil pass0 (pa_cons (pv 1) (pa_cons (pe_ix ix_kdict (pe_glob (v := .ref A.t_PART_WORDS) rfl T.m_PART_WORDS rfl) (pv 0) (fun _ _ => rfl)) pa_nil))))))), ?_⟩
      try dsimp only [L2.cxOf, L2.Cx.nox, L2.Cx.wish]
      with_reducible refine Rd.seq (Rd.ifS (Rd.test (Rd.op (Rd.var (by walk_at "vr") (Rd.c (Rd.eqS (by walk_at "vr") (Rd.bl (Rd.iteF (by first | with_unfolding_all rfl | walk_at "bF") (Rd.next (Rd.seq (Rd.ifS ?_)))))))))))
      with_reducible refine Rd.test (Rd.op (Rd.var (by walk_at "vr") (Rd.c (Rd.eqS (by walk_at "vr") (Rd.bl (Rd.iteF (by first | with_unfolding_all rfl | walk_at "bF") (Rd.next (Rd.ret (Rd.call (Rd.cons (Rd.var (by walk_at "vr") ?_)))))))))))
      with_reducible refine Rd.cons (Rd.op (Rd.c (Rd.var (by walk_at "vr") ?_)))
      refine ⟨_, _, _, rfl, rfl, T.d_PART_WORDS_when, ?_⟩
      with_reducible refine Rd.nil ?_
      refine in_is_word_of (fun cdv Ar outer s hr => ?_) rfl
      have hu := hu_of hr
      refine ⟨_, (pss_one (ps_ret (pe_and (pe_callB (Rd.isi (K := K) rfl) (by rfl) T.n_isinstance (by decide +kernel) (pa_cons (pv 0) (pa_cons (pe_bltn (v := .ty "str") (u := .type "str") (by rfl) T.n_str (by decide +kernel) rfl) pa_nil))) (pe_one (pe_cmpR op_in_seq (pv 0) (pv 1) (by with_unfolding_all rfl)))))), ?_⟩
      try dsimp only [L2.cxOf, L2.Cx.nox, L2.Cx.wish]
      with_reducible refine Rd.ret (Rd.andV (Rd.cB (Rd.cons (Rd.var (by walk_at "vr") (Rd.cons (Rd.c (Rd.nil ?_)))))))
      refine ⟨_, _, _, _, _, rfl, (by walk_at "clsv"), (by walk_at "tyx"), (by walk_at "kit"), ?_⟩
      with_reducible refine Rd.bl (Rd.iteT (by first | with_unfolding_all rfl | walk_at "bT") (Rd.op (Rd.var (by walk_at "vr") (Rd.var (by walk_at "vr") ?_))))
      refine Rd.inT (.inr (by walk_at "hpt")) rfl (by walk_at "flt") ?_
      with_reducible refine Rd.bl (Rd.iteF (by walk_at "bF") (Rd.next (Rd.ifS (Rd.and (Rd.test (Rd.op (Rd.var (by walk_at "vr") (Rd.c (Rd.eqS (by walk_at "vr") (Rd.bl (Rd.iteF (by first | with_unfolding_all rfl | walk_at "bF") ?_)))))))))))
      with_reducible refine Rd.iteF rfl (Rd.next ?_)
      refine ⟨by walk_at "hpt", ?_⟩
      refine Rd.unrTNil ?_
      with_reducible refine Rd.ret (Rd.c (Rd.name (Rd.seq (Rd.ifS (Rd.test (Rd.op (Rd.var (by walk_at "vr") (Rd.c (⟨rfl, (Rd.bl (Rd.iteF (by first | with_unfolding_all rfl | walk_at "bF") ?_))⟩)))))))))
      with_reducible refine Rd.next (Rd.sfld (Rd.var (by walk_at "vr") (Rd.var (by walk_at "vr") (⟨_, _, _, _, rfl, (by walk_at "hp"), T.k_Scheme, T.n_Scheme_parts, (by walk_at "sfl"), ?_⟩))))
      rw [fS_put]
      exact k _ _ (by walk_at "frm") (by assumption) L2.upd_same (by walk_at "hp")
    · obtain ⟨pw, dw, rfl, hpw⟩ := hw
      have w1 : 0 ≤ s ∧ s ≤ 4 ∧ -20 ≤ b ∧ b ≤ 20 := w1
      obtain ⟨pf, rfl, hpf⟩ := hf
      have i4 : inV (.str kk) [.str "next", .str "note"] = true := Rd.inW (ws := ["next", "note"]) w4
      have n4 : (!inV (.str kk) [.str "next", .str "note"]) = false := Rd.notF i4
      have i2 : (!inV (.str sl) [.str "rest", .str "off", .str "mask"]) = false := Rd.notF (Rd.inW (ws := ["rest", "off", "mask"]) w2)
      have i3 : (!inV (.str em) [.str "same", .str "count", .str "note"]) = false := Rd.notF (Rd.inW (ws := ["same", "count", "note"]) w3)
      have i6 : (!inV (.str wn) [.str "refuse", .str "drop", .str "over"]) = false := Rd.notF (Rd.inW (ws := ["refuse", "drop", "over"]) w5)
      have m1 : decide (V.str sl = V.str "mask") = false := nmask (w6 _ _ rfl)
      refine ⟨_, (pss_cons (ps_set (i := 6) sc_Schemeu__initu_.nd rfl (Or.inl rfl) (pe_disp (pps_cons pe_str (pv 1) (pps_cons pe_str (pv 2) (pps_cons pe_str (pv 3) (pps_cons pe_str (pv 4) (pps_cons pe_str (pv 5) pps_nil))))) rfl rfl (by simp) (by decide)))
      (pss_cons (ps_set (i := 7) sc_Schemeu__initu_.nd rfl (Or.inl rfl) (pe_call (ok_first_wrong T) (hr.mono (by decide)) (by rfl) T.m_first_wrong T.F_first_wrong.kp T.b_first_wrong .nil pass0 (pa_cons (pv 6) pa_nil)))
      (pss_cons (ps_if (pt_cmpR op_notN (pv 7) pe_non (nomark _)) (pss_one ps_never) pss_nil)
      (pss_one (ps_fld (pv 0) (pv 6) rfl))))), ?_⟩
      try dsimp only [L2.cxOf, L2.Cx.nox, L2.Cx.wish]
      with_reducible refine Rd.seq (Rd.asg ?_)
      refine Rd.disp5 (fun _ _ h => Rd.var (by walk_at "vr") h) (fun _ _ h => Rd.var (by walk_at "vr") h) (fun _ _ h => Rd.var (by walk_at "vr") h) (fun _ _ h => Rd.var (by walk_at "vr") h) (fun _ _ h => Rd.var (by walk_at "vr") h) ?_
      intro pd241_16 npd241_16
      rw [kvP_merge]
      with_reducible refine Rd.name (Rd.seq (Rd.asg (Rd.call (Rd.cons (Rd.var (by walk_at "vr") (Rd.nil ?_))))))
      refine in_first_wrong (fun cdv Ar outer s hr => ?_) rfl
      have hu := hu_of hr
      refine ⟨_, (pss_cons (ps_for PassesOwn.never rfl (pi_tup (pe_glob (v := .ref A.t_PART_NAMES) rfl T.m_PART_NAMES rfl)) (pg_name (i := 1) sc_first_wrong.nd rfl (Or.inl rfl)) (pss_cons (ps_if (pt_not (pt_val (pe_call (ok_is_part T) (hr.mono (by decide)) (by rfl) T.m_is_part T.F_is_part.kp T.b_is_part .nil pass0 (pa_cons (pv 1) (pa_cons (pe_dget hu (pv 0) (pv 1) (fun _ _ => rfl)) pa_nil))))) (pss_one ps_never) pss_nil) (pss_one (ps_if (PW.pt (pw_and (pt_cmpR op_eq (pv 1) pe_str (nomark _)) (pw_and (pt_cmpR op_eq (pe_dget hu (pv 0) pe_str (fun _ _ => rfl)) pe_str (nomark _)) (pw_and1 Rd.ptN)))) (pss_one ps_never) pss_nil))))
            (pss_one (ps_ret pe_non))), ?_⟩
      try dsimp only [L2.cxOf, L2.Cx.nox, L2.Cx.wish]
      with_reducible refine Rd.seq (Rd.fr (Rd.it (Rd.c (⟨_, rfl, ?_⟩))))
      refine Rd.unrollT (by walk_at "hpt") ?_
      refine Rd.unrTCons ?_
      with_reducible refine Rd.name ?_
      dsimp only [List.set]
      with_reducible refine Rd.seq (Rd.ifS (Rd.not (Rd.tb (Rd.call (Rd.cons (Rd.var (by walk_at "vr") (Rd.cons (Rd.dget (Rd.var (by walk_at "vr") (Rd.var (by walk_at "vr") ?_))))))))))
      refine Rd.dget2 (by walk_at "hp") (by walk_at "dl") ?_
      with_reducible refine Rd.nil ?_
      refine in_is_part (fun cdv Ar outer s hr => ?_) rfl
      have hu := hu_of hr
      refine ⟨_, (pss_cons (ps_if (pt_cmpR op_eq (pv 0) pe_str (nomark _)) (pss_one (ps_ret (pe_call (ok_is_wrap T) (hr.mono (by decide)) (by rfl) T.m_is_wrap T.F_is_wrap.kp T.b_is_wrap .nil pass0 (pa_cons (pv 1) pa_nil)))) pss_nil)
            (pss_cons ps_never (pss_one ps_never))), ?_⟩
      try dsimp only [L2.cxOf, L2.Cx.nox, L2.Cx.wish]
      with_reducible refine Rd.seq (Rd.ifS (Rd.test (Rd.op (Rd.var (by walk_at "vr") (Rd.c (Rd.eqS (by walk_at "vr") (Rd.bl (Rd.iteT (by first | with_unfolding_all rfl | walk_at "bT") (Rd.ret (Rd.call (Rd.cons ?_)))))))))))
      with_reducible refine Rd.var (by walk_at "vr") (Rd.nil ?_)
      refine in_is_wrap (fun cdv Ar outer s hr => ?_) rfl
      have hu := hu_of hr
      refine ⟨_, (pss_one (ps_ret (pe_or (pe_call (ok_is_small_form T) (hr.mono (by decide)) (by rfl) T.m_is_small_form T.F_is_small_form.kp T.b_is_small_form .nil pass0 (pa_cons (pv 0) pa_nil)) (pe_one Rd.peN)))), ?_⟩
      try dsimp only [L2.cxOf, L2.Cx.nox, L2.Cx.wish]
      with_reducible refine Rd.ret (Rd.orV (Rd.call (Rd.cons (Rd.var (by walk_at "vr") (Rd.nil ?_)))))
      refine in_is_small_form (fun cdv Ar outer s hr => ?_) rfl
      have hu := hu_of hr
      refine ⟨_, (pss_cons (ps_if (pt_not (pt_val (pe_callB (Rd.isi (K := K) rfl) (by rfl) T.n_isinstance (by decide +kernel) (pa_cons (pv 0) (pa_cons (pe_glob (v := .ref A.c_Form) rfl T.m_Form rfl) pa_nil))))) (pss_one ps_never) pss_nil)
            (pss_one (ps_ret (pe_and (pe_chain op_le op_le pe_int (pe_fld (pv 0) rfl) (pe_glob (v := .int (4)) rfl T.m_GREATEST_SLOPE ⟨_, rfl⟩)) (pe_one (pe_chain op_le op_le (pe_un un_neg (pe_glob (v := .int (20)) rfl T.m_GREATEST_BASE ⟨_, rfl⟩)) (pe_fld (pv 0) rfl) (pe_glob (v := .int (20)) rfl T.m_GREATEST_BASE ⟨_, rfl⟩))))))), ?_⟩
      try dsimp only [L2.cxOf, L2.Cx.nox, L2.Cx.wish]
      with_reducible refine Rd.seq (Rd.ifS (Rd.not (Rd.tb (Rd.cB (Rd.cons (Rd.var (by walk_at "vr") (Rd.cons (Rd.c (Rd.nil ?_)))))))))
      refine ⟨_, _, _, _, _, rfl, (by walk_at "clsv"), (by walk_at "tyx"), (by walk_at "kit"), ?_⟩
      with_reducible refine Rd.bl (Rd.iteF (by first | with_unfolding_all rfl | walk_at "bF") (Rd.next (Rd.ret (Rd.andV (Rd.chain (Rd.c (Rd.fld (Rd.var (by walk_at "vr") (⟨_, _, _, _, _, rfl, (by walk_at "hp"), T.k_Form, T.n_Form_slope, (by walk_at "lk"), (Rd.i0 (Rd.bl ?_))⟩)))))))))
      with_reducible refine Rd.iteT (by walk_at "bT") (Rd.c (Rd.i0 (Rd.bl (Rd.iteT (by walk_at "bT") (Rd.chain (Rd.un (Rd.c (Rd.iU (Rd.fld (Rd.var (by walk_at "vr") (⟨_, _, _, _, _, rfl, (by walk_at "hp"), T.k_Form, T.n_Form_base, (by walk_at "lk"), ?_⟩)))))))))))
      with_reducible refine Rd.i0 (Rd.bl (Rd.iteT (by walk_at "bT") (Rd.c (Rd.i0 (Rd.bl (Rd.iteT (by first | with_unfolding_all rfl | walk_at "bT") (Rd.bl (Rd.iteF (by walk_at "bF") (Rd.next (Rd.ifS (Rd.and ?_)))))))))))
      with_reducible refine Rd.test (Rd.op (Rd.var (by walk_at "vr") (Rd.c (Rd.eqS (by walk_at "vr") (Rd.bl (Rd.iteF (by first | with_unfolding_all rfl | walk_at "bF") (Rd.iteF rfl (Rd.next ?_))))))))
      refine ⟨by walk_at "hpt", ?_⟩
      refine Rd.unrTCons ?_
      with_reducible refine Rd.name ?_
      dsimp only [List.set]
      with_reducible refine Rd.seq (Rd.ifS (Rd.not (Rd.tb (Rd.call (Rd.cons (Rd.var (by walk_at "vr") (Rd.cons (Rd.dget (Rd.var (by walk_at "vr") (Rd.var (by walk_at "vr") ?_))))))))))
      refine Rd.dget2 (by walk_at "hp") (by walk_at "dl") ?_
      with_reducible refine Rd.nil ?_
      refine in_is_part (fun cdv Ar outer s hr => ?_) rfl
      have hu := hu_of hr
      refine ⟨_, (pss_cons (ps_if (pt_cmpR op_eq (pv 0) pe_str (nomark _)) (pss_one ps_never) pss_nil)
            (pss_cons (ps_if (pt_cmpR op_eq (pv 0) pe_str (nomark _)) (pss_one ps_never) pss_nil)
            (pss_one (ps_ret (pe_call (ok_is_word_of T) (hr.mono (by decide)) (by rfl) T.m_is_word_of T.F_is_word_of.kp T.b_is_word_of .nil pass0 (pa_cons (pv 1) (pa_cons (pe_ix ix_kdict (pe_glob (v := .ref A.t_PART_WORDS) rfl T.m_PART_WORDS rfl) (pv 0) (fun _ _ => rfl)) pa_nil))))))), ?_⟩
      try dsimp only [L2.cxOf, L2.Cx.nox, L2.Cx.wish]
      with_reducible refine Rd.seq (Rd.ifS (Rd.test (Rd.op (Rd.var (by walk_at "vr") (Rd.c (Rd.eqS (by walk_at "vr") (Rd.bl (Rd.iteF (by first | with_unfolding_all rfl | walk_at "bF") (Rd.next (Rd.seq (Rd.ifS ?_)))))))))))
      with_reducible refine Rd.test (Rd.op (Rd.var (by walk_at "vr") (Rd.c (Rd.eqS (by walk_at "vr") (Rd.bl (Rd.iteF (by first | with_unfolding_all rfl | walk_at "bF") (Rd.next (Rd.ret (Rd.call (Rd.cons (Rd.var (by walk_at "vr") ?_)))))))))))
      with_reducible refine Rd.cons (Rd.op (Rd.c (Rd.var (by walk_at "vr") ?_)))
      refine ⟨_, _, _, rfl, rfl, T.d_PART_WORDS_slot, ?_⟩
      with_reducible refine Rd.nil ?_
      refine in_is_word_of (fun cdv Ar outer s hr => ?_) rfl
      have hu := hu_of hr
      refine ⟨_, (pss_one (ps_ret (pe_and (pe_callB (Rd.isi (K := K) rfl) (by rfl) T.n_isinstance (by decide +kernel) (pa_cons (pv 0) (pa_cons (pe_bltn (v := .ty "str") (u := .type "str") (by rfl) T.n_str (by decide +kernel) rfl) pa_nil))) (pe_one (pe_cmpR op_in_seq (pv 0) (pv 1) (by with_unfolding_all rfl)))))), ?_⟩
      try dsimp only [L2.cxOf, L2.Cx.nox, L2.Cx.wish]
      with_reducible refine Rd.ret (Rd.andV (Rd.cB (Rd.cons (Rd.var (by walk_at "vr") (Rd.cons (Rd.c (Rd.nil ?_)))))))
      refine ⟨_, _, _, _, _, rfl, (by walk_at "clsv"), (by walk_at "tyx"), (by walk_at "kit"), ?_⟩
      with_reducible refine Rd.bl (Rd.iteT (by first | with_unfolding_all rfl | walk_at "bT") (Rd.op (Rd.var (by walk_at "vr") (Rd.var (by walk_at "vr") ?_))))
      refine Rd.inT (.inr (by walk_at "hpt")) rfl (by walk_at "flt") ?_
      with_reducible refine Rd.bl (Rd.iteF (by walk_at "bF") (Rd.next (Rd.ifS (Rd.and (Rd.test (Rd.op (Rd.var (by walk_at "vr") (Rd.c (Rd.eqS (by walk_at "vr") (Rd.bl (Rd.iteT (by first | with_unfolding_all rfl | walk_at "bT") ?_)))))))))))
      with_reducible refine Rd.and (Rd.test (Rd.op (Rd.dget (Rd.var (by walk_at "vr") (Rd.c ?_)))))
      refine Rd.dget2 (by walk_at "hp") (by walk_at "dl") ?_
      with_reducible refine Rd.c (Rd.eqS (by walk_at "vr") (Rd.bl (Rd.iteF (by walk_at "bF") (Rd.iteF rfl (Rd.next ?_)))))
      refine ⟨by walk_at "hpt", ?_⟩
      refine Rd.unrTCons ?_
      with_reducible refine Rd.name ?_
      dsimp only [List.set]
      with_reducible refine Rd.seq (Rd.ifS (Rd.not (Rd.tb (Rd.call (Rd.cons (Rd.var (by walk_at "vr") (Rd.cons (Rd.dget (Rd.var (by walk_at "vr") (Rd.var (by walk_at "vr") ?_))))))))))
      refine Rd.dget2 (by walk_at "hp") (by walk_at "dl") ?_
      with_reducible refine Rd.nil ?_
      refine in_is_part (fun cdv Ar outer s hr => ?_) rfl
      have hu := hu_of hr
      refine ⟨_, (pss_cons (ps_if (pt_cmpR op_eq (pv 0) pe_str (nomark _)) (pss_one ps_never) pss_nil)
            (pss_cons (ps_if (pt_cmpR op_eq (pv 0) pe_str (nomark _)) (pss_one ps_never) pss_nil)
            (pss_one (ps_ret (pe_call (ok_is_word_of T) (hr.mono (by decide)) (by rfl) T.m_is_word_of T.F_is_word_of.kp T.b_is_word_of .nil pass0 (pa_cons (pv 1) (pa_cons (pe_ix ix_kdict (pe_glob (v := .ref A.t_PART_WORDS) rfl T.m_PART_WORDS rfl) (pv 0) (fun _ _ => rfl)) pa_nil))))))), ?_⟩
      try dsimp only [L2.cxOf, L2.Cx.nox, L2.Cx.wish]
      with_reducible refine Rd.seq (Rd.ifS (Rd.test (Rd.op (Rd.var (by walk_at "vr") (Rd.c (Rd.eqS (by walk_at "vr") (Rd.bl (Rd.iteF (by first | with_unfolding_all rfl | walk_at "bF") (Rd.next (Rd.seq (Rd.ifS ?_)))))))))))
      with_reducible refine Rd.test (Rd.op (Rd.var (by walk_at "vr") (Rd.c (Rd.eqS (by walk_at "vr") (Rd.bl (Rd.iteF (by first | with_unfolding_all rfl | walk_at "bF") (Rd.next (Rd.ret (Rd.call (Rd.cons (Rd.var (by walk_at "vr") ?_)))))))))))
      with_reducible refine Rd.cons (Rd.op (Rd.c (Rd.var (by walk_at "vr") ?_)))
      refine ⟨_, _, _, rfl, rfl, T.d_PART_WORDS_empty, ?_⟩
      with_reducible refine Rd.nil ?_
      refine in_is_word_of (fun cdv Ar outer s hr => ?_) rfl
      have hu := hu_of hr
      refine ⟨_, (pss_one (ps_ret (pe_and (pe_callB (Rd.isi (K := K) rfl) (by rfl) T.n_isinstance (by decide +kernel) (pa_cons (pv 0) (pa_cons (pe_bltn (v := .ty "str") (u := .type "str") (by rfl) T.n_str (by decide +kernel) rfl) pa_nil))) (pe_one (pe_cmpR op_in_seq (pv 0) (pv 1) (by with_unfolding_all rfl)))))), ?_⟩
      try dsimp only [L2.cxOf, L2.Cx.nox, L2.Cx.wish]
      with_reducible refine Rd.ret (Rd.andV (Rd.cB (Rd.cons (Rd.var (by walk_at "vr") (Rd.cons (Rd.c (Rd.nil ?_)))))))
      refine ⟨_, _, _, _, _, rfl, (by walk_at "clsv"), (by walk_at "tyx"), (by walk_at "kit"), ?_⟩
      with_reducible refine Rd.bl (Rd.iteT (by first | with_unfolding_all rfl | walk_at "bT") (Rd.op (Rd.var (by walk_at "vr") (Rd.var (by walk_at "vr") ?_))))
      refine Rd.inT (.inr (by walk_at "hpt")) rfl (by walk_at "flt") ?_
      with_reducible refine Rd.bl (Rd.iteF (by walk_at "bF") (Rd.next (Rd.ifS (Rd.and (Rd.test (Rd.op (Rd.var (by walk_at "vr") (Rd.c (Rd.eqS (by walk_at "vr") (Rd.bl (Rd.iteF (by first | with_unfolding_all rfl | walk_at "bF") ?_)))))))))))
      with_reducible refine Rd.iteF rfl (Rd.next ?_)
      refine ⟨by walk_at "hpt", ?_⟩
      refine Rd.unrTCons ?_
      with_reducible refine Rd.name ?_
      dsimp only [List.set]
      with_reducible refine Rd.seq (Rd.ifS (Rd.not (Rd.tb (Rd.call (Rd.cons (Rd.var (by walk_at "vr") (Rd.cons (Rd.dget (Rd.var (by walk_at "vr") (Rd.var (by walk_at "vr") ?_))))))))))
      refine Rd.dget2 (by walk_at "hp") (by walk_at "dl") ?_
      with_reducible refine Rd.nil ?_
      refine in_is_part (fun cdv Ar outer s hr => ?_) rfl
      have hu := hu_of hr
      refine ⟨_, (pss_cons (ps_if (pt_cmpR op_eq (pv 0) pe_str (nomark _)) (pss_one ps_never) pss_nil)
            (pss_cons (ps_if (pt_cmpR op_eq (pv 0) pe_str (nomark _)) (pss_one (ps_ret (pe_call (ok_is_full T) (hr.mono (by decide)) (by rfl) T.m_is_full T.F_is_full.kp T.b_is_full .nil pass0 (pa_cons (pv 1) pa_nil)))) pss_nil)
            (pss_one ps_never))), ?_⟩
      try dsimp only [L2.cxOf, L2.Cx.nox, L2.Cx.wish]
      with_reducible refine Rd.seq (Rd.ifS (Rd.test (Rd.op (Rd.var (by walk_at "vr") (Rd.c (Rd.eqS (by walk_at "vr") (Rd.bl (Rd.iteF (by first | with_unfolding_all rfl | walk_at "bF") (Rd.next (Rd.seq (Rd.ifS ?_)))))))))))
      with_reducible refine Rd.test (Rd.op (Rd.var (by walk_at "vr") (Rd.c (Rd.eqS (by walk_at "vr") (Rd.bl (Rd.iteT (by first | with_unfolding_all rfl | walk_at "bT") (Rd.ret (Rd.call (Rd.cons (Rd.var (by walk_at "vr") (Rd.nil ?_)))))))))))
      refine in_is_full (fun cdv Ar outer s hr => ?_) rfl
      have hu := hu_of hr
      refine ⟨_, (pss_cons (ps_if (pt_not (pt_val (pe_callB (Rd.isi (K := K) rfl) (by rfl) T.n_isinstance (by decide +kernel) (pa_cons (pv 0) (pa_cons (pe_bltn (v := .ty "tuple") (u := .type "tuple") (by rfl) T.n_tuple (by decide +kernel) rfl) pa_nil))))) (pss_one ps_never) pss_nil)
            (pss_cons (ps_if (pt_cmpR op_eq (pe_callB call_len_seq (by rfl) T.n_len PySem.boot_len (pa_cons (pv 0) pa_nil)) pe_int (nomark _)) (pss_one (ps_ret (pe_call (ok_is_word_of T) (hr.mono (by decide)) (by rfl) T.m_is_word_of T.F_is_word_of.kp T.b_is_word_of .nil pass0 (pa_cons (pe_ix ix_tup (pv 0) pe_int (fun _ _ => rfl)) (pa_cons (pe_glob (v := .ref A.t_PLAIN_FULLS) rfl T.m_PLAIN_FULLS rfl) pa_nil))))) pss_nil)
            (pss_cons ps_never (pss_one ps_never)))), ?_⟩
      try dsimp only [L2.cxOf, L2.Cx.nox, L2.Cx.wish]
      with_reducible refine Rd.seq (Rd.ifS (Rd.not (Rd.tb (Rd.cB (Rd.cons (Rd.var (by walk_at "vr") (Rd.cons (Rd.c (Rd.nil ?_)))))))))
      refine ⟨_, _, _, _, _, rfl, (by walk_at "clsv"), (by walk_at "tyx"), (by walk_at "kit"), ?_⟩
      with_reducible refine Rd.bl (Rd.iteF (by first | with_unfolding_all rfl | walk_at "bF") (Rd.next (Rd.seq (Rd.ifS (Rd.test (Rd.op (Rd.cB (Rd.cons (Rd.var (by walk_at "vr") (Rd.nil (⟨_, _, rfl, (by walk_at "hpq"), ?_⟩)))))))))))
      with_reducible refine Rd.c (Rd.eqS (by walk_at "vr") (Rd.bl (Rd.iteT (by first | with_unfolding_all rfl | walk_at "bT") (Rd.ret (Rd.call (Rd.cons (Rd.op (Rd.var (by walk_at "vr") (Rd.c (Rd.ixT (by walk_at "hpt") (by walk_at "vr") (Rd.cons ?_)))))))))))
      with_reducible refine Rd.c (Rd.nil ?_)
      refine in_is_word_of (fun cdv Ar outer s hr => ?_) rfl
      have hu := hu_of hr
      refine ⟨_, (pss_one (ps_ret (pe_and (pe_callB (Rd.isi (K := K) rfl) (by rfl) T.n_isinstance (by decide +kernel) (pa_cons (pv 0) (pa_cons (pe_bltn (v := .ty "str") (u := .type "str") (by rfl) T.n_str (by decide +kernel) rfl) pa_nil))) (pe_one (pe_cmpR op_in_seq (pv 0) (pv 1) (by with_unfolding_all rfl)))))), ?_⟩
      try dsimp only [L2.cxOf, L2.Cx.nox, L2.Cx.wish]
      with_reducible refine Rd.ret (Rd.andV (Rd.cB (Rd.cons (Rd.var (by walk_at "vr") (Rd.cons (Rd.c (Rd.nil ?_)))))))
      refine ⟨_, _, _, _, _, rfl, (by walk_at "clsv"), (by walk_at "tyx"), (by walk_at "kit"), ?_⟩
      with_reducible refine Rd.bl (Rd.iteT (by first | with_unfolding_all rfl | walk_at "bT") (Rd.op (Rd.var (by walk_at "vr") (Rd.var (by walk_at "vr") ?_))))
      refine Rd.inT (.inr (by walk_at "hpt")) rfl (by walk_at "flt") ?_
      with_reducible refine Rd.bl (Rd.iteF (by walk_at "bF") (Rd.next (Rd.ifS (Rd.and (Rd.test (Rd.op (Rd.var (by walk_at "vr") (Rd.c (Rd.eqS (by walk_at "vr") (Rd.bl (Rd.iteF (by first | with_unfolding_all rfl | walk_at "bF") ?_)))))))))))
      with_reducible refine Rd.iteF rfl (Rd.next ?_)
      refine ⟨by walk_at "hpt", ?_⟩
      refine Rd.unrTCons ?_
      with_reducible refine Rd.name ?_
      dsimp only [List.set]
      with_reducible refine Rd.seq (Rd.ifS (Rd.not (Rd.tb (Rd.call (Rd.cons (Rd.var (by walk_at "vr") (Rd.cons (Rd.dget (Rd.var (by walk_at "vr") (Rd.var (by walk_at "vr") ?_))))))))))
      refine Rd.dget2 (by walk_at "hp") (by walk_at "dl") ?_
      with_reducible refine Rd.nil ?_
      refine in_is_part (fun cdv Ar outer s hr => ?_) rfl
      have hu := hu_of hr
      refine ⟨_, (pss_cons (ps_if (pt_cmpR op_eq (pv 0) pe_str (nomark _)) (pss_one ps_never) pss_nil)
            (pss_cons (ps_if (pt_cmpR op_eq (pv 0) pe_str (nomark _)) (pss_one ps_never) pss_nil)
            (pss_one (ps_ret (pe_call (ok_is_word_of T) (hr.mono (by decide)) (by rfl) T.m_is_word_of T.F_is_word_of.kp T.b_is_word_of .nil pass0 (pa_cons (pv 1) (pa_cons (pe_ix ix_kdict (pe_glob (v := .ref A.t_PART_WORDS) rfl T.m_PART_WORDS rfl) (pv 0) (fun _ _ => rfl)) pa_nil))))))), ?_⟩
      try dsimp only [L2.cxOf, L2.Cx.nox, L2.Cx.wish]
      with_reducible refine Rd.seq (Rd.ifS (Rd.test (Rd.op (Rd.var (by walk_at "vr") (Rd.c (Rd.eqS (by walk_at "vr") (Rd.bl (Rd.iteF (by first | with_unfolding_all rfl | walk_at "bF") (Rd.next (Rd.seq (Rd.ifS ?_)))))))))))
      with_reducible refine Rd.test (Rd.op (Rd.var (by walk_at "vr") (Rd.c (Rd.eqS (by walk_at "vr") (Rd.bl (Rd.iteF (by first | with_unfolding_all rfl | walk_at "bF") (Rd.next (Rd.ret (Rd.call (Rd.cons (Rd.var (by walk_at "vr") ?_)))))))))))
      with_reducible refine Rd.cons (Rd.op (Rd.c (Rd.var (by walk_at "vr") ?_)))
      refine ⟨_, _, _, rfl, rfl, T.d_PART_WORDS_when, ?_⟩
      with_reducible refine Rd.nil ?_
      refine in_is_word_of (fun cdv Ar outer s hr => ?_) rfl
      have hu := hu_of hr
      refine ⟨_, (pss_one (ps_ret (pe_and (pe_callB (Rd.isi (K := K) rfl) (by rfl) T.n_isinstance (by decide +kernel) (pa_cons (pv 0) (pa_cons (pe_bltn (v := .ty "str") (u := .type "str") (by rfl) T.n_str (by decide +kernel) rfl) pa_nil))) (pe_one (pe_cmpR op_in_seq (pv 0) (pv 1) (by with_unfolding_all rfl)))))), ?_⟩
      try dsimp only [L2.cxOf, L2.Cx.nox, L2.Cx.wish]
      with_reducible refine Rd.ret (Rd.andV (Rd.cB (Rd.cons (Rd.var (by walk_at "vr") (Rd.cons (Rd.c (Rd.nil ?_)))))))
      refine ⟨_, _, _, _, _, rfl, (by walk_at "clsv"), (by walk_at "tyx"), (by walk_at "kit"), ?_⟩
      with_reducible refine Rd.bl (Rd.iteT (by first | with_unfolding_all rfl | walk_at "bT") (Rd.op (Rd.var (by walk_at "vr") (Rd.var (by walk_at "vr") ?_))))
      refine Rd.inT (.inr (by walk_at "hpt")) rfl (by walk_at "flt") ?_
      with_reducible refine Rd.bl (Rd.iteF (by walk_at "bF") (Rd.next (Rd.ifS (Rd.and (Rd.test (Rd.op (Rd.var (by walk_at "vr") (Rd.c (Rd.eqS (by walk_at "vr") (Rd.bl (Rd.iteF (by first | with_unfolding_all rfl | walk_at "bF") ?_)))))))))))
      with_reducible refine Rd.iteF rfl (Rd.next ?_)
      refine ⟨by walk_at "hpt", ?_⟩
      refine Rd.unrTNil ?_
      with_reducible refine Rd.ret (Rd.c (Rd.name (Rd.seq (Rd.ifS (Rd.test (Rd.op (Rd.var (by walk_at "vr") (Rd.c (⟨rfl, (Rd.bl (Rd.iteF (by first | with_unfolding_all rfl | walk_at "bF") ?_))⟩)))))))))
      with_reducible refine Rd.next (Rd.sfld (Rd.var (by walk_at "vr") (Rd.var (by walk_at "vr") (⟨_, _, _, _, rfl, (by walk_at "hp"), T.k_Scheme, T.n_Scheme_parts, (by walk_at "sfl"), ?_⟩))))
      rw [fS_put]
      exact k _ _ (by walk_at "frm") (by assumption) L2.upd_same (by walk_at "hp")
    · obtain ⟨pw, dw, rfl, hpw⟩ := hw
      have w1 : 0 ≤ s ∧ s ≤ 4 ∧ -20 ≤ b ∧ b ≤ 20 := w1
      obtain ⟨pf, qf, dqf, rfl, hpf, hqf⟩ := hf
      obtain ⟨f1, f2, f3⟩ := w4
      have i4 : inV (.str kk) [.str "diff", .str "count"] = true := Rd.inW (ws := ["diff", "count"]) f1
      have i5 : inV (.str g) [.str "=", .str ">="] = true := Rd.inW (ws := ["=", ">="]) f2
      have i2 : (!inV (.str sl) [.str "rest", .str "off", .str "mask"]) = false := Rd.notF (Rd.inW (ws := ["rest", "off", "mask"]) w2)
      have i3 : (!inV (.str em) [.str "same", .str "count", .str "note"]) = false := Rd.notF (Rd.inW (ws := ["same", "count", "note"]) w3)
      have i6 : (!inV (.str wn) [.str "refuse", .str "drop", .str "over"]) = false := Rd.notF (Rd.inW (ws := ["refuse", "drop", "over"]) w5)
      have m1 : decide (V.str sl = V.str "mask") = false := nmask (w6 _ _ rfl)
      refine ⟨_, (pss_cons (ps_set (i := 6) sc_Schemeu__initu_.nd rfl (Or.inl rfl) (pe_disp (pps_cons pe_str (pv 1) (pps_cons pe_str (pv 2) (pps_cons pe_str (pv 3) (pps_cons pe_str (pv 4) (pps_cons pe_str (pv 5) pps_nil))))) rfl rfl (by simp) (by decide)))
      (pss_cons (ps_set (i := 7) sc_Schemeu__initu_.nd rfl (Or.inl rfl) (pe_call (ok_first_wrong T) (hr.mono (by decide)) (by rfl) T.m_first_wrong T.F_first_wrong.kp T.b_first_wrong .nil pass0 (pa_cons (pv 6) pa_nil)))
      (pss_cons (ps_if (pt_cmpR op_notN (pv 7) pe_non (nomark _)) (pss_one ps_never) pss_nil)
      (pss_one (ps_fld (pv 0) (pv 6) rfl))))), ?_⟩
      try dsimp only [L2.cxOf, L2.Cx.nox, L2.Cx.wish]
      with_reducible refine Rd.seq (Rd.asg ?_)
      refine Rd.disp5 (fun _ _ h => Rd.var (by walk_at "vr") h) (fun _ _ h => Rd.var (by walk_at "vr") h) (fun _ _ h => Rd.var (by walk_at "vr") h) (fun _ _ h => Rd.var (by walk_at "vr") h) (fun _ _ h => Rd.var (by walk_at "vr") h) ?_
      intro pd241_16 npd241_16
      rw [kvP_merge]
      with_reducible refine Rd.name (Rd.seq (Rd.asg (Rd.call (Rd.cons (Rd.var (by walk_at "vr") (Rd.nil ?_))))))
      refine in_first_wrong (fun cdv Ar outer s hr => ?_) rfl
      have hu := hu_of hr
      refine ⟨_, (pss_cons (ps_for PassesOwn.never rfl (pi_tup (pe_glob (v := .ref A.t_PART_NAMES) rfl T.m_PART_NAMES rfl)) (pg_name (i := 1) sc_first_wrong.nd rfl (Or.inl rfl)) (pss_cons (ps_if (pt_not (pt_val (pe_call (ok_is_part T) (hr.mono (by decide)) (by rfl) T.m_is_part T.F_is_part.kp T.b_is_part .nil pass0 (pa_cons (pv 1) (pa_cons (pe_dget hu (pv 0) (pv 1) (fun _ _ => rfl)) pa_nil))))) (pss_one ps_never) pss_nil) (pss_one (ps_if (PW.pt (pw_and (pt_cmpR op_eq (pv 1) pe_str (nomark _)) (pw_and (pt_cmpR op_eq (pe_dget hu (pv 0) pe_str (fun _ _ => rfl)) pe_str (nomark _)) (pw_and1 Rd.ptN)))) (pss_one ps_never) pss_nil))))
            (pss_one (ps_ret pe_non))), ?_⟩
      try dsimp only [L2.cxOf, L2.Cx.nox, L2.Cx.wish]
      with_reducible refine Rd.seq (Rd.fr (Rd.it (Rd.c (⟨_, rfl, ?_⟩))))
      refine Rd.unrollT (by walk_at "hpt") ?_
      refine Rd.unrTCons ?_
      with_reducible refine Rd.name ?_
      dsimp only [List.set]
      with_reducible refine Rd.seq (Rd.ifS (Rd.not (Rd.tb (Rd.call (Rd.cons (Rd.var (by walk_at "vr") (Rd.cons (Rd.dget (Rd.var (by walk_at "vr") (Rd.var (by walk_at "vr") ?_))))))))))
      refine Rd.dget2 (by walk_at "hp") (by walk_at "dl") ?_
      with_reducible refine Rd.nil ?_
      refine in_is_part (fun cdv Ar outer s hr => ?_) rfl
      have hu := hu_of hr
      refine ⟨_, (pss_cons (ps_if (pt_cmpR op_eq (pv 0) pe_str (nomark _)) (pss_one (ps_ret (pe_call (ok_is_wrap T) (hr.mono (by decide)) (by rfl) T.m_is_wrap T.F_is_wrap.kp T.b_is_wrap .nil pass0 (pa_cons (pv 1) pa_nil)))) pss_nil)
            (pss_cons ps_never (pss_one ps_never))), ?_⟩
      try dsimp only [L2.cxOf, L2.Cx.nox, L2.Cx.wish]
      with_reducible refine Rd.seq (Rd.ifS (Rd.test (Rd.op (Rd.var (by walk_at "vr") (Rd.c (Rd.eqS (by walk_at "vr") (Rd.bl (Rd.iteT (by first | with_unfolding_all rfl | walk_at "bT") (Rd.ret (Rd.call (Rd.cons ?_)))))))))))
      with_reducible refine Rd.var (by walk_at "vr") (Rd.nil ?_)
      refine in_is_wrap (fun cdv Ar outer s hr => ?_) rfl
      have hu := hu_of hr
      refine ⟨_, (pss_one (ps_ret (pe_or (pe_call (ok_is_small_form T) (hr.mono (by decide)) (by rfl) T.m_is_small_form T.F_is_small_form.kp T.b_is_small_form .nil pass0 (pa_cons (pv 0) pa_nil)) (pe_one Rd.peN)))), ?_⟩
      try dsimp only [L2.cxOf, L2.Cx.nox, L2.Cx.wish]
      with_reducible refine Rd.ret (Rd.orV (Rd.call (Rd.cons (Rd.var (by walk_at "vr") (Rd.nil ?_)))))
      refine in_is_small_form (fun cdv Ar outer s hr => ?_) rfl
      have hu := hu_of hr
      refine ⟨_, (pss_cons (ps_if (pt_not (pt_val (pe_callB (Rd.isi (K := K) rfl) (by rfl) T.n_isinstance (by decide +kernel) (pa_cons (pv 0) (pa_cons (pe_glob (v := .ref A.c_Form) rfl T.m_Form rfl) pa_nil))))) (pss_one ps_never) pss_nil)
            (pss_one (ps_ret (pe_and (pe_chain op_le op_le pe_int (pe_fld (pv 0) rfl) (pe_glob (v := .int (4)) rfl T.m_GREATEST_SLOPE ⟨_, rfl⟩)) (pe_one (pe_chain op_le op_le (pe_un un_neg (pe_glob (v := .int (20)) rfl T.m_GREATEST_BASE ⟨_, rfl⟩)) (pe_fld (pv 0) rfl) (pe_glob (v := .int (20)) rfl T.m_GREATEST_BASE ⟨_, rfl⟩))))))), ?_⟩
      try dsimp only [L2.cxOf, L2.Cx.nox, L2.Cx.wish]
      with_reducible refine Rd.seq (Rd.ifS (Rd.not (Rd.tb (Rd.cB (Rd.cons (Rd.var (by walk_at "vr") (Rd.cons (Rd.c (Rd.nil ?_)))))))))
      refine ⟨_, _, _, _, _, rfl, (by walk_at "clsv"), (by walk_at "tyx"), (by walk_at "kit"), ?_⟩
      with_reducible refine Rd.bl (Rd.iteF (by first | with_unfolding_all rfl | walk_at "bF") (Rd.next (Rd.ret (Rd.andV (Rd.chain (Rd.c (Rd.fld (Rd.var (by walk_at "vr") (⟨_, _, _, _, _, rfl, (by walk_at "hp"), T.k_Form, T.n_Form_slope, (by walk_at "lk"), (Rd.i0 (Rd.bl ?_))⟩)))))))))
      with_reducible refine Rd.iteT (by walk_at "bT") (Rd.c (Rd.i0 (Rd.bl (Rd.iteT (by walk_at "bT") (Rd.chain (Rd.un (Rd.c (Rd.iU (Rd.fld (Rd.var (by walk_at "vr") (⟨_, _, _, _, _, rfl, (by walk_at "hp"), T.k_Form, T.n_Form_base, (by walk_at "lk"), ?_⟩)))))))))))
      with_reducible refine Rd.i0 (Rd.bl (Rd.iteT (by walk_at "bT") (Rd.c (Rd.i0 (Rd.bl (Rd.iteT (by first | with_unfolding_all rfl | walk_at "bT") (Rd.bl (Rd.iteF (by walk_at "bF") (Rd.next (Rd.ifS (Rd.and ?_)))))))))))
      with_reducible refine Rd.test (Rd.op (Rd.var (by walk_at "vr") (Rd.c (Rd.eqS (by walk_at "vr") (Rd.bl (Rd.iteF (by first | with_unfolding_all rfl | walk_at "bF") (Rd.iteF rfl (Rd.next ?_))))))))
      refine ⟨by walk_at "hpt", ?_⟩
      refine Rd.unrTCons ?_
      with_reducible refine Rd.name ?_
      dsimp only [List.set]
      with_reducible refine Rd.seq (Rd.ifS (Rd.not (Rd.tb (Rd.call (Rd.cons (Rd.var (by walk_at "vr") (Rd.cons (Rd.dget (Rd.var (by walk_at "vr") (Rd.var (by walk_at "vr") ?_))))))))))
      refine Rd.dget2 (by walk_at "hp") (by walk_at "dl") ?_
      with_reducible refine Rd.nil ?_
      refine in_is_part (fun cdv Ar outer s hr => ?_) rfl
      have hu := hu_of hr
      refine ⟨_, (pss_cons (ps_if (pt_cmpR op_eq (pv 0) pe_str (nomark _)) (pss_one ps_never) pss_nil)
            (pss_cons (ps_if (pt_cmpR op_eq (pv 0) pe_str (nomark _)) (pss_one ps_never) pss_nil)
            (pss_one (ps_ret (pe_call (ok_is_word_of T) (hr.mono (by decide)) (by rfl) T.m_is_word_of T.F_is_word_of.kp T.b_is_word_of .nil pass0 (pa_cons (pv 1) (pa_cons (pe_ix ix_kdict (pe_glob (v := .ref A.t_PART_WORDS) rfl T.m_PART_WORDS rfl) (pv 0) (fun _ _ => rfl)) pa_nil))))))), ?_⟩
      try dsimp only [L2.cxOf, L2.Cx.nox, L2.Cx.wish]
      with_reducible refine Rd.seq (Rd.ifS (Rd.test (Rd.op (Rd.var (by walk_at "vr") (Rd.c (Rd.eqS (by walk_at "vr") (Rd.bl (Rd.iteF (by first | with_unfolding_all rfl | walk_at "bF") (Rd.next (Rd.seq (Rd.ifS ?_)))))))))))
      with_reducible refine Rd.test (Rd.op (Rd.var (by walk_at "vr") (Rd.c (Rd.eqS (by walk_at "vr") (Rd.bl (Rd.iteF (by first | with_unfolding_all rfl | walk_at "bF") (Rd.next (Rd.ret (Rd.call (Rd.cons (Rd.var (by walk_at "vr") ?_)))))))))))
      with_reducible refine Rd.cons (Rd.op (Rd.c (Rd.var (by walk_at "vr") ?_)))
      refine ⟨_, _, _, rfl, rfl, T.d_PART_WORDS_slot, ?_⟩
      with_reducible refine Rd.nil ?_
      refine in_is_word_of (fun cdv Ar outer s hr => ?_) rfl
      have hu := hu_of hr
      refine ⟨_, (pss_one (ps_ret (pe_and (pe_callB (Rd.isi (K := K) rfl) (by rfl) T.n_isinstance (by decide +kernel) (pa_cons (pv 0) (pa_cons (pe_bltn (v := .ty "str") (u := .type "str") (by rfl) T.n_str (by decide +kernel) rfl) pa_nil))) (pe_one (pe_cmpR op_in_seq (pv 0) (pv 1) (by with_unfolding_all rfl)))))), ?_⟩
      try dsimp only [L2.cxOf, L2.Cx.nox, L2.Cx.wish]
      with_reducible refine Rd.ret (Rd.andV (Rd.cB (Rd.cons (Rd.var (by walk_at "vr") (Rd.cons (Rd.c (Rd.nil ?_)))))))
      refine ⟨_, _, _, _, _, rfl, (by walk_at "clsv"), (by walk_at "tyx"), (by walk_at "kit"), ?_⟩
      with_reducible refine Rd.bl (Rd.iteT (by first | with_unfolding_all rfl | walk_at "bT") (Rd.op (Rd.var (by walk_at "vr") (Rd.var (by walk_at "vr") ?_))))
      refine Rd.inT (.inr (by walk_at "hpt")) rfl (by walk_at "flt") ?_
      with_reducible refine Rd.bl (Rd.iteF (by walk_at "bF") (Rd.next (Rd.ifS (Rd.and (Rd.test (Rd.op (Rd.var (by walk_at "vr") (Rd.c (Rd.eqS (by walk_at "vr") (Rd.bl (Rd.iteT (by first | with_unfolding_all rfl | walk_at "bT") ?_)))))))))))
      with_reducible refine Rd.and (Rd.test (Rd.op (Rd.dget (Rd.var (by walk_at "vr") (Rd.c ?_)))))
      refine Rd.dget2 (by walk_at "hp") (by walk_at "dl") ?_
      with_reducible refine Rd.c (Rd.eqS (by walk_at "vr") (Rd.bl (Rd.iteF (by walk_at "bF") (Rd.iteF rfl (Rd.next ?_)))))
      refine ⟨by walk_at "hpt", ?_⟩
      refine Rd.unrTCons ?_
      with_reducible refine Rd.name ?_
      dsimp only [List.set]
      with_reducible refine Rd.seq (Rd.ifS (Rd.not (Rd.tb (Rd.call (Rd.cons (Rd.var (by walk_at "vr") (Rd.cons (Rd.dget (Rd.var (by walk_at "vr") (Rd.var (by walk_at "vr") ?_))))))))))
      refine Rd.dget2 (by walk_at "hp") (by walk_at "dl") ?_
      with_reducible refine Rd.nil ?_
      refine in_is_part (fun cdv Ar outer s hr => ?_) rfl
      have hu := hu_of hr
      refine ⟨_, (pss_cons (ps_if (pt_cmpR op_eq (pv 0) pe_str (nomark _)) (pss_one ps_never) pss_nil)
            (pss_cons (ps_if (pt_cmpR op_eq (pv 0) pe_str (nomark _)) (pss_one ps_never) pss_nil)
            (pss_one (ps_ret (pe_call (ok_is_word_of T) (hr.mono (by decide)) (by rfl) T.m_is_word_of T.F_is_word_of.kp T.b_is_word_of .nil pass0 (pa_cons (pv 1) (pa_cons (pe_ix ix_kdict (pe_glob (v := .ref A.t_PART_WORDS) rfl T.m_PART_WORDS rfl) (pv 0) (fun _ _ => rfl)) pa_nil))))))), ?_⟩
      try dsimp only [L2.cxOf, L2.Cx.nox, L2.Cx.wish]
      with_reducible refine Rd.seq (Rd.ifS (Rd.test (Rd.op (Rd.var (by walk_at "vr") (Rd.c (Rd.eqS (by walk_at "vr") (Rd.bl (Rd.iteF (by first | with_unfolding_all rfl | walk_at "bF") (Rd.next (Rd.seq (Rd.ifS ?_)))))))))))
      with_reducible refine Rd.test (Rd.op (Rd.var (by walk_at "vr") (Rd.c (Rd.eqS (by walk_at "vr") (Rd.bl (Rd.iteF (by first | with_unfolding_all rfl | walk_at "bF") (Rd.next (Rd.ret (Rd.call (Rd.cons (Rd.var (by walk_at "vr") ?_)))))))))))
      with_reducible refine Rd.cons (Rd.op (Rd.c (Rd.var (by walk_at "vr") ?_)))
      refine ⟨_, _, _, rfl, rfl, T.d_PART_WORDS_empty, ?_⟩
      with_reducible refine Rd.nil ?_
      refine in_is_word_of (fun cdv Ar outer s hr => ?_) rfl
      have hu := hu_of hr
      refine ⟨_, (pss_one (ps_ret (pe_and (pe_callB (Rd.isi (K := K) rfl) (by rfl) T.n_isinstance (by decide +kernel) (pa_cons (pv 0) (pa_cons (pe_bltn (v := .ty "str") (u := .type "str") (by rfl) T.n_str (by decide +kernel) rfl) pa_nil))) (pe_one (pe_cmpR op_in_seq (pv 0) (pv 1) (by with_unfolding_all rfl)))))), ?_⟩
      try dsimp only [L2.cxOf, L2.Cx.nox, L2.Cx.wish]
      with_reducible refine Rd.ret (Rd.andV (Rd.cB (Rd.cons (Rd.var (by walk_at "vr") (Rd.cons (Rd.c (Rd.nil ?_)))))))
      refine ⟨_, _, _, _, _, rfl, (by walk_at "clsv"), (by walk_at "tyx"), (by walk_at "kit"), ?_⟩
      with_reducible refine Rd.bl (Rd.iteT (by first | with_unfolding_all rfl | walk_at "bT") (Rd.op (Rd.var (by walk_at "vr") (Rd.var (by walk_at "vr") ?_))))
      refine Rd.inT (.inr (by walk_at "hpt")) rfl (by walk_at "flt") ?_
      with_reducible refine Rd.bl (Rd.iteF (by walk_at "bF") (Rd.next (Rd.ifS (Rd.and (Rd.test (Rd.op (Rd.var (by walk_at "vr") (Rd.c (Rd.eqS (by walk_at "vr") (Rd.bl (Rd.iteF (by first | with_unfolding_all rfl | walk_at "bF") ?_)))))))))))
      with_reducible refine Rd.iteF rfl (Rd.next ?_)
      refine ⟨by walk_at "hpt", ?_⟩
      refine Rd.unrTCons ?_
      with_reducible refine Rd.name ?_
      dsimp only [List.set]
      with_reducible refine Rd.seq (Rd.ifS (Rd.not (Rd.tb (Rd.call (Rd.cons (Rd.var (by walk_at "vr") (Rd.cons (Rd.dget (Rd.var (by walk_at "vr") (Rd.var (by walk_at "vr") ?_))))))))))
      refine Rd.dget2 (by walk_at "hp") (by walk_at "dl") ?_
      with_reducible refine Rd.nil ?_
      refine in_is_part (fun cdv Ar outer s hr => ?_) rfl
      have hu := hu_of hr
      refine ⟨_, (pss_cons (ps_if (pt_cmpR op_eq (pv 0) pe_str (nomark _)) (pss_one ps_never) pss_nil)
            (pss_cons (ps_if (pt_cmpR op_eq (pv 0) pe_str (nomark _)) (pss_one (ps_ret (pe_call (ok_is_full T) (hr.mono (by decide)) (by rfl) T.m_is_full T.F_is_full.kp T.b_is_full .nil pass0 (pa_cons (pv 1) pa_nil)))) pss_nil)
            (pss_one ps_never))), ?_⟩
      try dsimp only [L2.cxOf, L2.Cx.nox, L2.Cx.wish]
      with_reducible refine Rd.seq (Rd.ifS (Rd.test (Rd.op (Rd.var (by walk_at "vr") (Rd.c (Rd.eqS (by walk_at "vr") (Rd.bl (Rd.iteF (by first | with_unfolding_all rfl | walk_at "bF") (Rd.next (Rd.seq (Rd.ifS ?_)))))))))))
      with_reducible refine Rd.test (Rd.op (Rd.var (by walk_at "vr") (Rd.c (Rd.eqS (by walk_at "vr") (Rd.bl (Rd.iteT (by first | with_unfolding_all rfl | walk_at "bT") (Rd.ret (Rd.call (Rd.cons (Rd.var (by walk_at "vr") (Rd.nil ?_)))))))))))
      refine in_is_full (fun cdv Ar outer s hr => ?_) rfl
      have hu := hu_of hr
      refine ⟨_, (pss_cons (ps_if (pt_not (pt_val (pe_callB (Rd.isi (K := K) rfl) (by rfl) T.n_isinstance (by decide +kernel) (pa_cons (pv 0) (pa_cons (pe_bltn (v := .ty "tuple") (u := .type "tuple") (by rfl) T.n_tuple (by decide +kernel) rfl) pa_nil))))) (pss_one ps_never) pss_nil)
            (pss_cons (ps_if (pt_cmpR op_eq (pe_callB call_len_seq (by rfl) T.n_len PySem.boot_len (pa_cons (pv 0) pa_nil)) pe_int (nomark _)) (pss_one ps_never) pss_nil)
            (pss_cons (ps_if (pt_cmpR op_ne (pe_callB call_len_seq (by rfl) T.n_len PySem.boot_len (pa_cons (pv 0) pa_nil)) pe_int (nomark _)) (pss_one ps_never) pss_nil)
            (pss_one (ps_ret (pe_and (pe_call (ok_is_word_of T) (hr.mono (by decide)) (by rfl) T.m_is_word_of T.F_is_word_of.kp T.b_is_word_of .nil pass0 (pa_cons (pe_ix ix_tup (pv 0) pe_int (fun _ _ => rfl)) (pa_cons (pe_glob (v := .ref A.t_MEASURES) rfl T.m_MEASURES rfl) pa_nil))) (pe_and (pe_call (ok_is_word_of T) (hr.mono (by decide)) (by rfl) T.m_is_word_of T.F_is_word_of.kp T.b_is_word_of .nil pass0 (pa_cons (pe_ix ix_tup (pv 0) pe_int (fun _ _ => rfl)) (pa_cons (pe_glob (v := .ref A.t_SIGNS) rfl T.m_SIGNS rfl) pa_nil))) (pe_one (pe_call (ok_is_small_form T) (hr.mono (by decide)) (by rfl) T.m_is_small_form T.F_is_small_form.kp T.b_is_small_form .nil pass0 (pa_cons (pe_ix ix_tup (pv 0) pe_int (fun _ _ => rfl)) pa_nil)))))))))), ?_⟩
      try dsimp only [L2.cxOf, L2.Cx.nox, L2.Cx.wish]
      with_reducible refine Rd.seq (Rd.ifS (Rd.not (Rd.tb (Rd.cB (Rd.cons (Rd.var (by walk_at "vr") (Rd.cons (Rd.c (Rd.nil ?_)))))))))
      refine ⟨_, _, _, _, _, rfl, (by walk_at "clsv"), (by walk_at "tyx"), (by walk_at "kit"), ?_⟩
      with_reducible refine Rd.bl (Rd.iteF (by first | with_unfolding_all rfl | walk_at "bF") (Rd.next (Rd.seq (Rd.ifS (Rd.test (Rd.op (Rd.cB (Rd.cons (Rd.var (by walk_at "vr") (Rd.nil (⟨_, _, rfl, (by walk_at "hpq"), ?_⟩)))))))))))
      with_reducible refine Rd.c (Rd.eqS (by walk_at "vr") (Rd.bl (Rd.iteF (by first | with_unfolding_all rfl | walk_at "bF") (Rd.next (Rd.seq (Rd.ifS (Rd.test (Rd.op (Rd.cB (Rd.cons (Rd.var (by walk_at "vr") ?_)))))))))))
      with_reducible refine Rd.nil (⟨_, _, rfl, (by walk_at "hpq"), (Rd.c (Rd.neS (by walk_at "vr") (Rd.bl (Rd.iteF (by first | with_unfolding_all rfl | walk_at "bF") (Rd.next (Rd.ret (Rd.andV (Rd.call (Rd.cons (Rd.op ?_))))))))))⟩)
      with_reducible refine Rd.var (by walk_at "vr") (Rd.c (Rd.ixT (by walk_at "hpt") (by walk_at "vr") (Rd.cons (Rd.c (Rd.nil ?_)))))
      refine in_is_word_of (fun cdv Ar outer s hr => ?_) rfl
      have hu := hu_of hr
      refine ⟨_, (pss_one (ps_ret (pe_and (pe_callB (Rd.isi (K := K) rfl) (by rfl) T.n_isinstance (by decide +kernel) (pa_cons (pv 0) (pa_cons (pe_bltn (v := .ty "str") (u := .type "str") (by rfl) T.n_str (by decide +kernel) rfl) pa_nil))) (pe_one (pe_cmpR op_in_seq (pv 0) (pv 1) (by with_unfolding_all rfl)))))), ?_⟩
      try dsimp only [L2.cxOf, L2.Cx.nox, L2.Cx.wish]
      with_reducible refine Rd.ret (Rd.andV (Rd.cB (Rd.cons (Rd.var (by walk_at "vr") (Rd.cons (Rd.c (Rd.nil ?_)))))))
      refine ⟨_, _, _, _, _, rfl, (by walk_at "clsv"), (by walk_at "tyx"), (by walk_at "kit"), ?_⟩
      with_reducible refine Rd.bl (Rd.iteT (by first | with_unfolding_all rfl | walk_at "bT") (Rd.op (Rd.var (by walk_at "vr") (Rd.var (by walk_at "vr") ?_))))
      refine Rd.inT (.inr (by walk_at "hpt")) rfl (by walk_at "flt") ?_
      with_reducible refine Rd.bl (Rd.iteT (by walk_at "bT") (Rd.andV (Rd.call (Rd.cons (Rd.op (Rd.var (by walk_at "vr") (Rd.c (Rd.ixT (by walk_at "hpt") (by walk_at "vr") (Rd.cons (Rd.c (Rd.nil ?_)))))))))))
      refine in_is_word_of (fun cdv Ar outer s hr => ?_) rfl
      have hu := hu_of hr
      refine ⟨_, (pss_one (ps_ret (pe_and (pe_callB (Rd.isi (K := K) rfl) (by rfl) T.n_isinstance (by decide +kernel) (pa_cons (pv 0) (pa_cons (pe_bltn (v := .ty "str") (u := .type "str") (by rfl) T.n_str (by decide +kernel) rfl) pa_nil))) (pe_one (pe_cmpR op_in_seq (pv 0) (pv 1) (by with_unfolding_all rfl)))))), ?_⟩
      try dsimp only [L2.cxOf, L2.Cx.nox, L2.Cx.wish]
      with_reducible refine Rd.ret (Rd.andV (Rd.cB (Rd.cons (Rd.var (by walk_at "vr") (Rd.cons (Rd.c (Rd.nil ?_)))))))
      refine ⟨_, _, _, _, _, rfl, (by walk_at "clsv"), (by walk_at "tyx"), (by walk_at "kit"), ?_⟩
      with_reducible refine Rd.bl (Rd.iteT (by first | with_unfolding_all rfl | walk_at "bT") (Rd.op (Rd.var (by walk_at "vr") (Rd.var (by walk_at "vr") ?_))))
      refine Rd.inT (.inr (by walk_at "hpt")) rfl (by walk_at "flt") ?_
      with_reducible refine Rd.bl (Rd.iteT (by walk_at "bT") (Rd.call (Rd.cons (Rd.op (Rd.var (by walk_at "vr") (Rd.c (Rd.ixT (by walk_at "hpt") (by walk_at "vr") (Rd.nil ?_))))))))
      refine in_is_small_form (fun cdv Ar outer s hr => ?_) rfl
      have hu := hu_of hr
      refine ⟨_, (pss_cons (ps_if (pt_not (pt_val (pe_callB (Rd.isi (K := K) rfl) (by rfl) T.n_isinstance (by decide +kernel) (pa_cons (pv 0) (pa_cons (pe_glob (v := .ref A.c_Form) rfl T.m_Form rfl) pa_nil))))) (pss_one ps_never) pss_nil)
            (pss_one (ps_ret (pe_and (pe_chain op_le op_le pe_int (pe_fld (pv 0) rfl) (pe_glob (v := .int (4)) rfl T.m_GREATEST_SLOPE ⟨_, rfl⟩)) (pe_one (pe_chain op_le op_le (pe_un un_neg (pe_glob (v := .int (20)) rfl T.m_GREATEST_BASE ⟨_, rfl⟩)) (pe_fld (pv 0) rfl) (pe_glob (v := .int (20)) rfl T.m_GREATEST_BASE ⟨_, rfl⟩))))))), ?_⟩
      try dsimp only [L2.cxOf, L2.Cx.nox, L2.Cx.wish]
      with_reducible refine Rd.seq (Rd.ifS (Rd.not (Rd.tb (Rd.cB (Rd.cons (Rd.var (by walk_at "vr") (Rd.cons (Rd.c (Rd.nil ?_)))))))))
      refine ⟨_, _, _, _, _, rfl, (by walk_at "clsv"), (by walk_at "tyx"), (by walk_at "kit"), ?_⟩
      with_reducible refine Rd.bl (Rd.iteF (by first | with_unfolding_all rfl | walk_at "bF") (Rd.next (Rd.ret (Rd.andV (Rd.chain (Rd.c (Rd.fld (Rd.var (by walk_at "vr") (⟨_, _, _, _, _, rfl, (by walk_at "hp"), T.k_Form, T.n_Form_slope, (by walk_at "lk"), (Rd.i0 (Rd.bl ?_))⟩)))))))))
      with_reducible refine Rd.iteT (by walk_at "bT") (Rd.c (Rd.i0 (Rd.bl (Rd.iteT (by walk_at "bT") (Rd.chain (Rd.un (Rd.c (Rd.iU (Rd.fld (Rd.var (by walk_at "vr") (⟨_, _, _, _, _, rfl, (by walk_at "hp"), T.k_Form, T.n_Form_base, (by walk_at "lk"), ?_⟩)))))))))))
      with_reducible refine Rd.i0 (Rd.bl (Rd.iteT (by walk_at "bT") (Rd.c (Rd.i0 (Rd.bl (Rd.iteF (by walk_at "bF") (Rd.next (Rd.ifS (Rd.and (Rd.test (Rd.op ?_)))))))))))
      with_reducible refine Rd.var (by walk_at "vr") (Rd.c (Rd.eqS (by walk_at "vr") (Rd.bl (Rd.iteF (by first | with_unfolding_all rfl | walk_at "bF") (Rd.iteF rfl (Rd.next ?_))))))
      refine ⟨by walk_at "hpt", ?_⟩
      refine Rd.unrTCons ?_
      with_reducible refine Rd.name ?_
      dsimp only [List.set]
      with_reducible refine Rd.seq (Rd.ifS (Rd.not (Rd.tb (Rd.call (Rd.cons (Rd.var (by walk_at "vr") (Rd.cons (Rd.dget (Rd.var (by walk_at "vr") (Rd.var (by walk_at "vr") ?_))))))))))
      refine Rd.dget2 (by walk_at "hp") (by walk_at "dl") ?_
      with_reducible refine Rd.nil ?_
      refine in_is_part (fun cdv Ar outer s hr => ?_) rfl
      have hu := hu_of hr
      refine ⟨_, (pss_cons (ps_if (pt_cmpR op_eq (pv 0) pe_str (nomark _)) (pss_one ps_never) pss_nil)
            (pss_cons (ps_if (pt_cmpR op_eq (pv 0) pe_str (nomark _)) (pss_one ps_never) pss_nil)
            (pss_one (ps_ret (pe_call (ok_is_word_of T) (hr.mono (by decide)) (by rfl) T.m_is_word_of T.F_is_word_of.kp T.b_is_word_of .nil pass0 (pa_cons (pv 1) (pa_cons (pe_ix ix_kdict (pe_glob (v := .ref A.t_PART_WORDS) rfl T.m_PART_WORDS rfl) (pv 0) (fun _ _ => rfl)) pa_nil))))))), ?_⟩
      try dsimp only [L2.cxOf, L2.Cx.nox, L2.Cx.wish]
      with_reducible refine Rd.seq (Rd.ifS (Rd.test (Rd.op (Rd.var (by walk_at "vr") (Rd.c (Rd.eqS (by walk_at "vr") (Rd.bl (Rd.iteF (by first | with_unfolding_all rfl | walk_at "bF") (Rd.next (Rd.seq (Rd.ifS ?_)))))))))))
      with_reducible refine Rd.test (Rd.op (Rd.var (by walk_at "vr") (Rd.c (Rd.eqS (by walk_at "vr") (Rd.bl (Rd.iteF (by first | with_unfolding_all rfl | walk_at "bF") (Rd.next (Rd.ret (Rd.call (Rd.cons (Rd.var (by walk_at "vr") ?_)))))))))))
      with_reducible refine Rd.cons (Rd.op (Rd.c (Rd.var (by walk_at "vr") ?_)))
      refine ⟨_, _, _, rfl, rfl, T.d_PART_WORDS_when, ?_⟩
      with_reducible refine Rd.nil ?_
      refine in_is_word_of (fun cdv Ar outer s hr => ?_) rfl
      have hu := hu_of hr
      refine ⟨_, (pss_one (ps_ret (pe_and (pe_callB (Rd.isi (K := K) rfl) (by rfl) T.n_isinstance (by decide +kernel) (pa_cons (pv 0) (pa_cons (pe_bltn (v := .ty "str") (u := .type "str") (by rfl) T.n_str (by decide +kernel) rfl) pa_nil))) (pe_one (pe_cmpR op_in_seq (pv 0) (pv 1) (by with_unfolding_all rfl)))))), ?_⟩
      try dsimp only [L2.cxOf, L2.Cx.nox, L2.Cx.wish]
      with_reducible refine Rd.ret (Rd.andV (Rd.cB (Rd.cons (Rd.var (by walk_at "vr") (Rd.cons (Rd.c (Rd.nil ?_)))))))
      refine ⟨_, _, _, _, _, rfl, (by walk_at "clsv"), (by walk_at "tyx"), (by walk_at "kit"), ?_⟩
      with_reducible refine Rd.bl (Rd.iteT (by first | with_unfolding_all rfl | walk_at "bT") (Rd.op (Rd.var (by walk_at "vr") (Rd.var (by walk_at "vr") ?_))))
      refine Rd.inT (.inr (by walk_at "hpt")) rfl (by walk_at "flt") ?_
      with_reducible refine Rd.bl (Rd.iteF (by walk_at "bF") (Rd.next (Rd.ifS (Rd.and (Rd.test (Rd.op (Rd.var (by walk_at "vr") (Rd.c (Rd.eqS (by walk_at "vr") (Rd.bl (Rd.iteF (by first | with_unfolding_all rfl | walk_at "bF") ?_)))))))))))
      with_reducible refine Rd.iteF rfl (Rd.next ?_)
      refine ⟨by walk_at "hpt", ?_⟩
      refine Rd.unrTNil ?_
      with_reducible refine Rd.ret (Rd.c (Rd.name (Rd.seq (Rd.ifS (Rd.test (Rd.op (Rd.var (by walk_at "vr") (Rd.c (⟨rfl, (Rd.bl (Rd.iteF (by first | with_unfolding_all rfl | walk_at "bF") ?_))⟩)))))))))
      with_reducible refine Rd.next (Rd.sfld (Rd.var (by walk_at "vr") (Rd.var (by walk_at "vr") (⟨_, _, _, _, rfl, (by walk_at "hp"), T.k_Scheme, T.n_Scheme_parts, (by walk_at "sfl"), ?_⟩))))
      rw [fS_put]
      exact k _ _ (by walk_at "frm") (by assumption) L2.upd_same (by walk_at "hp")
/-! _law_source -/
theorem sc_l_source : FnScope ["_law_script", "_law_turn", "_law_cell", "_law_number", "_law_seed"] ["_law_script", "_law_turn"] (defScope s_l_source) := ⟨rfl, rfl, rfl, by decide +kernel, rfl, by decide +kernel, by decide +kernel⟩
abbrev sp_l_source (K : PySem.W.Frag) (A : Adr) : Sp := spSource K
theorem ok_l_source (T : Txt w K mg A) : FnOk P w K mg base CX0 1 A.f_l_source A.d_l_source ["_law_script", "_law_turn"] (sp_l_source K A) := by
  refine T.F_l_source.ok sc_l_source (fun vs H Q E h => ?_) (fun cdv Ar outer s H vs Q E hr h => ?_)
  · obtain ⟨a, ns, t, rfl, ha, ht, ht2, k⟩ := h
    rfl
  · obtain ⟨a, ns, t, rfl, ha, ht, ht2, k⟩ := h
    have hu := hu_of hr
    have t_q_PART_NAMES := T.q_PART_NAMES
    have t_q_PART_WORDS_slot := T.q_PART_WORDS_slot
    have t_d_PART_WORDS_slot := T.d_PART_WORDS_slot
    have t_q_PART_WORDS_empty := T.q_PART_WORDS_empty
    have t_d_PART_WORDS_empty := T.d_PART_WORDS_empty
    have t_q_PART_WORDS_when := T.q_PART_WORDS_when
    have t_d_PART_WORDS_when := T.d_PART_WORDS_when
    have t_q_MEASURES := T.q_MEASURES
    have t_q_SIGNS := T.q_SIGNS
    have t_q_PLAIN_FULLS := T.q_PLAIN_FULLS
    have t_i_Form := T.i_Form
    have t_kt_Form_Form := T.kt_Form_Form
    have t_kt_int_Form := T.kt_int_Form
    have t_nf_Form_Form := T.nf_Form_Form
    have t_nf_int_Form := T.nf_int_Form
    have t_k_Form := T.k_Form
    have t_k_Scheme := T.k_Scheme
    refine ⟨_, (pss_cons (ps_set (i := 2) sc_l_source.nd rfl (Or.inl rfl) pe_int)
      (pss_cons (ps_if (pt_cmpR op_lt (pv 1) (pe_callB call_len_seq (by rfl) T.n_len PySem.boot_len (pa_cons (pv 0) pa_nil)) (nomark _)) (pss_one (ps_set (i := 2) sc_l_source.nd rfl (Or.inl rfl) (pe_ix ix_list (pv 0) (pv 1) (fun _ _ => rfl)))) pss_nil)
      (pss_cons (ps_set (i := 3) sc_l_source.nd rfl (Or.inl rfl) (pe_callB call_abs (by rfl) T.n_abs (by decide +kernel) (pa_cons (pv 2) pa_nil))) (pss_cons (ps_set (i := 4) sc_l_source.nd rfl (Or.inl rfl) (pe_op op_mod (pe_callTy call_int1 (by rfl) T.n_int (by decide +kernel) (pa_cons (pe_op op_add (pe_op op_add (pe_op op_mulW (pe_op op_mod (pe_callTy call_int1 (by rfl) T.n_int (by decide +kernel) (pa_cons (pv 3) pa_nil)) pe_int) pe_int) (pe_op op_mulW pe_int (pv 1))) pe_int) pa_nil)) pe_int)) (pss_cons (ps_if (pt_cmpR op_lt (pv 3) (pe_op op_pow pe_int pe_int) (nomark _)) (pss_one (ps_set (i := 3) sc_l_source.nd rfl (Or.inl rfl) pe_int)) pss_nil) (pss_one (ps_ret (pe_lst (pa_cons (pv 3) (pa_cons (pv 4) pa_nil)))))))))), ?_⟩
    try dsimp only [L2.cxOf, L2.Cx.nox, L2.Cx.wish]
    with_reducible refine Rd.seq (Rd.asg (Rd.c (Rd.name (Rd.seq (Rd.ifS (Rd.test (Rd.op (Rd.var (by walk_at "vr") (Rd.cB (Rd.cons (Rd.var (by walk_at "vr") ?_)))))))))))
    with_reducible refine Rd.nil (⟨_, _, rfl, (by walk_at "hpq"), (Rd.i0 (Rd.bl ?_))⟩)
    refine Rd.ite (fun h0 => ?_) (fun h0 => ?_)
    · try simp only [decide_eq_true_eq, Bool.not_eq_true', decide_eq_false_iff_not, Bool.not_eq_true, Bool.not_eq_eq_eq_not, Bool.not_true, Bool.not_false] at h0
      with_reducible refine Rd.asg (Rd.op (Rd.var (by walk_at "vr") (Rd.var (by walk_at "vr") ?_)))
      obtain ⟨z, hz⟩ := atI_map ht (by simpa using h0)
      refine Rd.ixL (by walk_at "hpl") hz ?_
      with_reducible refine Rd.name (Rd.seq (Rd.asg (Rd.cB (Rd.cons (Rd.var (by walk_at "vr") (Rd.nil (⟨_, rfl, (Rd.name (Rd.seq (Rd.asg (Rd.op ?_))))⟩)))))))
      with_reducible refine Rd.cB (Rd.cons (Rd.op (Rd.op (Rd.op (Rd.op (Rd.cB (Rd.cons (Rd.var (by walk_at "vr") (Rd.nil ((.inl ⟨_, rfl, (Rd.c ?_)⟩)))))))))))
      with_reducible refine Rd.iC (by walk_at "sc") (Rd.c (Rd.iC (by walk_at "scm") (Rd.op (Rd.c (Rd.var (by walk_at "vr") (Rd.iC (by walk_at "scm") (Rd.i0 (Rd.c (Rd.i0 (Rd.nil ((.inl ⟨_, rfl, ?_⟩))))))))))))
      with_reducible refine Rd.c (Rd.iC (by walk_at "sc") (Rd.name (Rd.seq (Rd.ifS (Rd.test (Rd.op (Rd.var (by walk_at "vr") (Rd.op (Rd.c (Rd.c (Rd.iC (by walk_at "scp") ?_)))))))))))
      with_reducible refine Rd.i0 (Rd.bl ?_)
      refine Rd.ite (fun h1 => ?_) (fun h1 => ?_)
      · try simp only [decide_eq_true_eq, Bool.not_eq_true', decide_eq_false_iff_not, Bool.not_eq_true, Bool.not_eq_eq_eq_not, Bool.not_true, Bool.not_false] at h1
        with_reducible refine Rd.asg (Rd.c (Rd.name (Rd.ret (Rd.lst (Rd.cons (Rd.var (by walk_at "vr") (Rd.cons (Rd.var (by walk_at "vr") (Rd.nil (Rd.laid (by walk_at "ll") ?_))))))))))
        intro p0 np0
        exact k _ _ np0 ⟨_, _, rfl, (by walk_at "sc"), (by walk_at "sc"), (by walk_at "sc")⟩
      · try simp only [decide_eq_true_eq, Bool.not_eq_true', decide_eq_false_iff_not, Bool.not_eq_true, Bool.not_eq_eq_eq_not, Bool.not_true, Bool.not_false, Int.not_lt, Int.not_le, Decidable.not_not] at h1
        with_reducible refine Rd.next (Rd.ret (Rd.lst (Rd.cons (Rd.var (by walk_at "vr") (Rd.cons (Rd.var (by walk_at "vr") (Rd.nil (Rd.laid (by walk_at "ll") ?_))))))))
        intro p0 np0
        exact k _ _ np0 ⟨_, _, rfl, (by walk_at "sc"), (by walk_at "sc"), (by walk_at "sc")⟩
    · try simp only [decide_eq_true_eq, Bool.not_eq_true', decide_eq_false_iff_not, Bool.not_eq_true, Bool.not_eq_eq_eq_not, Bool.not_true, Bool.not_false, Int.not_lt, Int.not_le, Decidable.not_not] at h0
      with_reducible refine Rd.next (Rd.seq (Rd.asg (Rd.cB (Rd.cons (Rd.var (by walk_at "vr") (Rd.nil (⟨_, rfl, (Rd.name (Rd.seq (Rd.asg (Rd.op ?_))))⟩)))))))
      with_reducible refine Rd.cB (Rd.cons (Rd.op (Rd.op (Rd.op (Rd.op (Rd.cB (Rd.cons (Rd.var (by walk_at "vr") (Rd.nil ((.inl ⟨_, rfl, (Rd.c ?_)⟩)))))))))))
      with_reducible refine Rd.iC (by walk_at "sc") (Rd.c (Rd.iC (by walk_at "scm") (Rd.op (Rd.c (Rd.var (by walk_at "vr") (Rd.iC (by walk_at "scm") (Rd.i0 (Rd.c (Rd.i0 (Rd.nil ((.inl ⟨_, rfl, ?_⟩))))))))))))
      with_reducible refine Rd.c (Rd.iC (by walk_at "sc") (Rd.name (Rd.seq (Rd.ifS (Rd.test (Rd.op (Rd.var (by walk_at "vr") (Rd.op (Rd.c (Rd.c (Rd.iC (by walk_at "scp") ?_)))))))))))
      with_reducible refine Rd.i0 (Rd.bl ?_)
      refine Rd.ite (fun h1 => ?_) (fun h1 => ?_)
      · try simp only [decide_eq_true_eq, Bool.not_eq_true', decide_eq_false_iff_not, Bool.not_eq_true, Bool.not_eq_eq_eq_not, Bool.not_true, Bool.not_false] at h1
        with_reducible refine Rd.asg (Rd.c (Rd.name (Rd.ret (Rd.lst (Rd.cons (Rd.var (by walk_at "vr") (Rd.cons (Rd.var (by walk_at "vr") (Rd.nil (Rd.laid (by walk_at "ll") ?_))))))))))
        intro p0 np0
        exact k _ _ np0 ⟨_, _, rfl, (by walk_at "sc"), (by walk_at "sc"), (by walk_at "sc")⟩
      · try simp only [decide_eq_true_eq, Bool.not_eq_true', decide_eq_false_iff_not, Bool.not_eq_true, Bool.not_eq_eq_eq_not, Bool.not_true, Bool.not_false, Int.not_lt, Int.not_le, Decidable.not_not] at h1
        with_reducible refine Rd.next (Rd.ret (Rd.lst (Rd.cons (Rd.var (by walk_at "vr") (Rd.cons (Rd.var (by walk_at "vr") (Rd.nil (Rd.laid (by walk_at "ll") ?_))))))))
        intro p0 np0
        exact k _ _ np0 ⟨_, _, rfl, (by walk_at "sc"), (by walk_at "sc"), (by walk_at "sc")⟩
/-! _law_draw -/
theorem sc_l_draw : FnScope ["_law_source_here", "_law_amount", "_law_digit", "_law_found"] ["_law_source_here", "_law_amount"] (defScope s_l_draw) := ⟨rfl, rfl, rfl, by decide +kernel, rfl, by decide +kernel, by decide +kernel⟩
abbrev sp_l_draw (K : PySem.W.Frag) (A : Adr) : Sp := spDraw
theorem ok_l_draw (T : Txt w K mg A) : FnOk P w K mg base CX0 1 A.f_l_draw A.d_l_draw ["_law_source_here", "_law_amount"] (sp_l_draw K A) := by
  refine T.F_l_draw.ok sc_l_draw (fun vs H Q E h => ?_) (fun cdv Ar outer s H vs Q E hr h => ?_)
  · obtain ⟨a, o, m, rfl, ha, ho, hm, hm2, k⟩ := h
    rfl
  · obtain ⟨a, o, m, rfl, ha, ho, hm, hm2, k⟩ := h
    have hu := hu_of hr
    have t_q_PART_NAMES := T.q_PART_NAMES
    have t_q_PART_WORDS_slot := T.q_PART_WORDS_slot
    have t_d_PART_WORDS_slot := T.d_PART_WORDS_slot
    have t_q_PART_WORDS_empty := T.q_PART_WORDS_empty
    have t_d_PART_WORDS_empty := T.d_PART_WORDS_empty
    have t_q_PART_WORDS_when := T.q_PART_WORDS_when
    have t_d_PART_WORDS_when := T.d_PART_WORDS_when
    have t_q_MEASURES := T.q_MEASURES
    have t_q_SIGNS := T.q_SIGNS
    have t_q_PLAIN_FULLS := T.q_PLAIN_FULLS
    have t_i_Form := T.i_Form
    have t_kt_Form_Form := T.kt_Form_Form
    have t_kt_int_Form := T.kt_int_Form
    have t_nf_Form_Form := T.nf_Form_Form
    have t_nf_int_Form := T.nf_int_Form
    have t_k_Form := T.k_Form
    have t_k_Scheme := T.k_Scheme
    obtain ⟨x, y, rfl, hx, hy, hy2⟩ := ho
    have e1 := Int.emod_nonneg x (show m ≠ 0 by first | omega | decide)
    have e2 := Int.emod_lt_of_pos x hm
    have e3 := Int.ediv_nonneg hx (show 0 ≤ m by first | omega | decide)
    refine ⟨_, (pss_cons (ps_if (pt_cmpR op_gt (pe_ix ix_list (pv 0) pe_int (fun _ _ => rfl)) pe_int (nomark _)) (pss_cons (ps_set (i := 2) sc_l_draw.nd rfl (Or.inl rfl) (pe_op op_mod (pe_callTy call_int1 (by rfl) T.n_int (by decide +kernel) (pa_cons (pe_ix ix_list (pv 0) pe_int (fun _ _ => rfl)) pa_nil)) (pv 1)))
      (pss_cons (ps_asg (pe_op op_fdivW (pe_ix ix_list (pv 0) pe_int (fun _ _ => rfl)) (pv 1)) (pg_sub (pv 0) pe_int set_list))
      (pss_one (ps_ret (pv 2))))) pss_nil)
      (pss_cons (ps_asg (pe_op op_mod (pe_callTy call_int1 (by rfl) T.n_int (by decide +kernel) (pa_cons (pe_op op_add (pe_op op_mulW (pe_ix ix_list (pv 0) pe_int (fun _ _ => rfl)) pe_int) pe_int) pa_nil)) pe_int) (pg_sub (pv 0) pe_int set_list))
      (pss_cons (ps_set (i := 3) sc_l_draw.nd rfl (Or.inl rfl) (pe_op op_fdivW (pe_op op_mod (pe_callTy call_int1 (by rfl) T.n_int (by decide +kernel) (pa_cons (pe_op op_mulW (pe_ix ix_list (pv 0) pe_int (fun _ _ => rfl)) (pe_ix ix_list (pv 0) pe_int (fun _ _ => rfl))) pa_nil)) pe_int) pe_int))
      (pss_cons (ps_if (pt_cmpR op_gt (pv 1) (pe_op op_pow pe_int pe_int) (nomark _)) (pss_cons (ps_asg (pe_op op_mod (pe_callTy call_int1 (by rfl) T.n_int (by decide +kernel) (pa_cons (pe_op op_add (pe_op op_mulW (pe_ix ix_list (pv 0) pe_int (fun _ _ => rfl)) pe_int) pe_int) pa_nil)) pe_int) (pg_sub (pv 0) pe_int set_list))
      (pss_one (ps_set (i := 3) sc_l_draw.nd rfl (Or.inl rfl) (pe_op op_add (pe_op op_mulW (pv 3) pe_int) (pe_op op_fdivW (pe_op op_mod (pe_callTy call_int1 (by rfl) T.n_int (by decide +kernel) (pa_cons (pe_op op_mulW (pe_ix ix_list (pv 0) pe_int (fun _ _ => rfl)) (pe_ix ix_list (pv 0) pe_int (fun _ _ => rfl))) pa_nil)) pe_int) pe_int))))) pss_nil)
      (pss_one (ps_ret (pe_op op_mod (pe_callTy call_int1 (by rfl) T.n_int (by decide +kernel) (pa_cons (pv 3) pa_nil)) (pv 1)))))))), ?_⟩
    try dsimp only [L2.cxOf, L2.Cx.nox, L2.Cx.wish]
    with_reducible refine Rd.seq (Rd.ifS (Rd.test (Rd.op (Rd.op (Rd.var (by walk_at "vr") (Rd.c (Rd.ixL (by walk_at "hpl") (by walk_at "vr") (Rd.c (Rd.i0 (Rd.bl ?_))))))))))
    refine Rd.ite (fun h0 => ?_) (fun h0 => ?_)
    · try simp only [decide_eq_true_eq, Bool.not_eq_true', decide_eq_false_iff_not, Bool.not_eq_true, Bool.not_eq_eq_eq_not, Bool.not_true, Bool.not_false] at h0
      with_reducible refine Rd.seq (Rd.asg (Rd.op (Rd.cB (Rd.cons (Rd.op (Rd.var (by walk_at "vr") (Rd.c (Rd.ixL (by walk_at "hpl") (by walk_at "vr") (Rd.nil ((.inl ⟨_, rfl, (Rd.var (by walk_at "vr") ?_)⟩)))))))))))
      with_reducible refine Rd.iC (by walk_at "sc") (Rd.name (Rd.seq (Rd.asg (Rd.op (Rd.op (Rd.var (by walk_at "vr") (Rd.c (Rd.ixL (by walk_at "hpl") (by walk_at "vr") (Rd.var (by walk_at "vr") (Rd.iC (by walk_at "scd") (Rd.sub ?_)))))))))))
      with_reducible refine Rd.var (by walk_at "vr") (Rd.c (Rd.setL (by walk_at "hp") (by walk_at "ixn") (Rd.ret (Rd.var (by walk_at "vr") ?_))))
      exact k _ _ (by walk_at "sc") (by walk_at "sc") ⟨_, _, rfl, (by walk_at "sc"), (by walk_at "sc"), (by walk_at "sc")⟩
    · try simp only [decide_eq_true_eq, Bool.not_eq_true', decide_eq_false_iff_not, Bool.not_eq_true, Bool.not_eq_eq_eq_not, Bool.not_true, Bool.not_false, Int.not_lt, Int.not_le, Decidable.not_not] at h0
      with_reducible refine Rd.next (Rd.seq (Rd.asg (Rd.op (Rd.cB (Rd.cons (Rd.op (Rd.op (Rd.op (Rd.var (by walk_at "vr") (Rd.c (Rd.ixL (by walk_at "hpl") (by walk_at "vr") ?_)))))))))))
      with_reducible refine Rd.c (Rd.iC (by walk_at "scm") (Rd.c (Rd.i0 (Rd.nil ((.inl ⟨_, rfl, (Rd.c (Rd.iC (by walk_at "sc") (Rd.sub (Rd.var (by walk_at "vr") (Rd.c (Rd.setL (by walk_at "hp") (by walk_at "ixn") ?_))))))⟩))))))
      with_reducible refine Rd.seq (Rd.asg (Rd.op (Rd.op (Rd.cB (Rd.cons (Rd.op (Rd.op (Rd.var (by walk_at "vr") (Rd.c (Rd.ixL (by walk_at "hpl") (by walk_at "vr") (Rd.op ?_)))))))))))
      with_reducible refine Rd.var (by walk_at "vr") (Rd.c (Rd.ixL (by walk_at "hpl") (by walk_at "vr") (Rd.iC (by walk_at "scm") (Rd.nil ((.inl ⟨_, rfl, (Rd.c (Rd.iC (by walk_at "sc") (Rd.c (Rd.iC (by walk_at "scd") (Rd.name (Rd.seq ?_))))))⟩))))))
      with_reducible refine Rd.ifS (Rd.test (Rd.op (Rd.var (by walk_at "vr") (Rd.op (Rd.c (Rd.c (Rd.iC (by walk_at "scp") (Rd.i0 (Rd.bl ?_)))))))))
      refine Rd.ite (fun h1 => ?_) (fun h1 => ?_)
      · try simp only [decide_eq_true_eq, Bool.not_eq_true', decide_eq_false_iff_not, Bool.not_eq_true, Bool.not_eq_eq_eq_not, Bool.not_true, Bool.not_false] at h1
        with_reducible refine Rd.seq (Rd.asg (Rd.op (Rd.cB (Rd.cons (Rd.op (Rd.op (Rd.op (Rd.var (by walk_at "vr") (Rd.c (Rd.ixL (by walk_at "hpl") (by walk_at "vr") (Rd.c ?_)))))))))))
        with_reducible refine Rd.iC (by walk_at "scm") (Rd.c (Rd.i0 (Rd.nil ((.inl ⟨_, rfl, (Rd.c (Rd.iC (by walk_at "sc") (Rd.sub (Rd.var (by walk_at "vr") (Rd.c (Rd.setL (by walk_at "hp") (by walk_at "ixn") (Rd.asg ?_)))))))⟩)))))
        with_reducible refine Rd.op (Rd.op (Rd.var (by walk_at "vr") (Rd.c (Rd.iC (by walk_at "scm") (Rd.op (Rd.op (Rd.cB (Rd.cons (Rd.op (Rd.op (Rd.var (by walk_at "vr") ?_)))))))))))
        with_reducible refine Rd.c (Rd.ixL (by walk_at "hpl") (by walk_at "vr") (Rd.op (Rd.var (by walk_at "vr") (Rd.c (Rd.ixL (by walk_at "hpl") (by walk_at "vr") (Rd.iC (by walk_at "scm") (Rd.nil ((.inl ⟨_, rfl, (Rd.c (Rd.iC (by walk_at "sc") (Rd.c ?_)))⟩)))))))))
        with_reducible refine Rd.iC (by walk_at "scd") (Rd.i0 (Rd.name (Rd.ret (Rd.op (Rd.cB (Rd.cons (Rd.var (by walk_at "vr") (Rd.nil ((.inl ⟨_, rfl, (Rd.var (by walk_at "vr") (Rd.iC (by walk_at "sc") ?_))⟩))))))))))
        (repeat rw [L2.upd_upd])
        exact k _ _ (Int.emod_nonneg _ (by first | omega | decide)) (Int.emod_lt_of_pos _ hm) ⟨_, _, rfl, hx, (by first | omega | decide), (by first | omega | decide)⟩
      · try simp only [decide_eq_true_eq, Bool.not_eq_true', decide_eq_false_iff_not, Bool.not_eq_true, Bool.not_eq_eq_eq_not, Bool.not_true, Bool.not_false, Int.not_lt, Int.not_le, Decidable.not_not] at h1
        with_reducible refine Rd.next (Rd.ret (Rd.op (Rd.cB (Rd.cons (Rd.var (by walk_at "vr") (Rd.nil ((.inl ⟨_, rfl, (Rd.var (by walk_at "vr") (Rd.iC (by walk_at "sc") ?_))⟩))))))))
        (repeat rw [L2.upd_upd])
        exact k _ _ (Int.emod_nonneg _ (by first | omega | decide)) (Int.emod_lt_of_pos _ hm) ⟨_, _, rfl, hx, (by first | omega | decide), (by first | omega | decide)⟩
/-! _law_pick -/
theorem sc_l_pick : FnScope ["_law_source_here", "_law_items"] ["_law_source_here", "_law_items"] (defScope s_l_pick) := ⟨rfl, rfl, rfl, by decide +kernel, rfl, by decide +kernel, by decide +kernel⟩
abbrev sp_l_pick (K : PySem.W.Frag) (A : Adr) : Sp := fun vs H Q _ => ∃ (a l : Addr) (o : HO) (xs : List V), vs = [.ref a, .ref l] ∧ H a = some o ∧ SrcO o ∧ H l = some (.lst xs) ∧ 0 < xs.length ∧ xs.length ≤ 100 ∧ l ≠ a ∧ ∀ (v : V) (o' : HO) (H' : Hp), v ∈ xs → Frm a H H' → H' a = some o' → SrcO o' → Q v H'
theorem ok_l_pick (T : Txt w K mg A) : FnOk P w K mg base CX0 2 A.f_l_pick A.d_l_pick ["_law_source_here", "_law_items"] (sp_l_pick K A) := by
  refine T.F_l_pick.ok sc_l_pick (fun vs H Q E h => ?_) (fun cdv Ar outer s H vs Q E hr h => ?_)
  · obtain ⟨a, l, o, xs, rfl, ha, ho, hl, h0, h1, hne, k⟩ := h
    rfl
  · obtain ⟨a, l, o, xs, rfl, ha, ho, hl, h0, h1, hne, k⟩ := h
    have hu := hu_of hr
    have t_q_PART_NAMES := T.q_PART_NAMES
    have t_q_PART_WORDS_slot := T.q_PART_WORDS_slot
    have t_d_PART_WORDS_slot := T.d_PART_WORDS_slot
    have t_q_PART_WORDS_empty := T.q_PART_WORDS_empty
    have t_d_PART_WORDS_empty := T.d_PART_WORDS_empty
    have t_q_PART_WORDS_when := T.q_PART_WORDS_when
    have t_d_PART_WORDS_when := T.d_PART_WORDS_when
    have t_q_MEASURES := T.q_MEASURES
    have t_q_SIGNS := T.q_SIGNS
    have t_q_PLAIN_FULLS := T.q_PLAIN_FULLS
    have t_i_Form := T.i_Form
    have t_kt_Form_Form := T.kt_Form_Form
    have t_kt_int_Form := T.kt_int_Form
    have t_nf_Form_Form := T.nf_Form_Form
    have t_nf_int_Form := T.nf_int_Form
    have t_k_Form := T.k_Form
    have t_k_Scheme := T.k_Scheme
    refine ⟨_, (pss_one (ps_ret (pe_ix ix_list (pv 1) (pe_call (ok_l_draw T) (hr.mono (by decide)) (by rfl) T.m_l_draw T.F_l_draw.kp T.b_l_draw .nil pass0 (pa_cons (pv 0) (pa_cons (pe_callB call_len_seq (by rfl) T.n_len PySem.boot_len (pa_cons (pv 1) pa_nil)) pa_nil))) (fun _ _ => rfl)))), ?_⟩
    try dsimp only [L2.cxOf, L2.Cx.nox, L2.Cx.wish]
    with_reducible refine Rd.ret (Rd.op (Rd.var (by walk_at "vr") (Rd.call (Rd.cons (Rd.var (by walk_at "vr") (Rd.cons (Rd.cB (Rd.cons (Rd.var (by walk_at "vr") (Rd.nil (⟨_, _, rfl, (by walk_at "hpq"), ?_⟩)))))))))))
    with_reducible refine Rd.nil ?_
    refine ⟨_, _, _, rfl, (by walk_at "hp"), (by walk_at "sc"), (by walk_at "sc"), (by walk_at "sc"), fun d1 o1 d1a d1b s1 => ?_⟩
    refine Rd.pickAny (by walk_at "hpl") d1a d1b (fun v hv => ?_)
    exact k _ _ _ hv (by walk_at "frm") (by walk_at "hp") (by assumption)
/-! _law_limit -/
theorem sc_l_limit : FnScope ["_law_source_here", "_law_some"] ["_law_source_here"] (defScope s_l_limit) := ⟨rfl, rfl, rfl, by decide +kernel, rfl, by decide +kernel, by decide +kernel⟩
abbrev sp_l_limit (K : PySem.W.Frag) (A : Adr) : Sp := fun vs H Q _ => ∃ (a : Addr) (o : HO), vs = [.ref a] ∧ H a = some o ∧ SrcO o ∧ ∀ (v : V) (o' : HO) (H' : Hp), Frm a H H' → H' a = some o' → SrcO o' → Lim H' v → Q v H'
theorem ok_l_limit (T : Txt w K mg A) : FnOk P w K mg base CX0 3 A.f_l_limit A.d_l_limit ["_law_source_here"] (sp_l_limit K A) := by
  refine T.F_l_limit.ok sc_l_limit (fun vs H Q E h => ?_) (fun cdv Ar outer s H vs Q E hr h => ?_)
  · obtain ⟨a, o, rfl, ha, ho, k⟩ := h
    rfl
  · obtain ⟨a, o, rfl, ha, ho, k⟩ := h
    have hu := hu_of hr
    have t_q_PART_NAMES := T.q_PART_NAMES
    have t_q_PART_WORDS_slot := T.q_PART_WORDS_slot
    have t_d_PART_WORDS_slot := T.d_PART_WORDS_slot
    have t_q_PART_WORDS_empty := T.q_PART_WORDS_empty
    have t_d_PART_WORDS_empty := T.d_PART_WORDS_empty
    have t_q_PART_WORDS_when := T.q_PART_WORDS_when
    have t_d_PART_WORDS_when := T.d_PART_WORDS_when
    have t_q_MEASURES := T.q_MEASURES
    have t_q_SIGNS := T.q_SIGNS
    have t_q_PLAIN_FULLS := T.q_PLAIN_FULLS
    have t_i_Form := T.i_Form
    have t_kt_Form_Form := T.kt_Form_Form
    have t_kt_int_Form := T.kt_int_Form
    have t_nf_Form_Form := T.nf_Form_Form
    have t_nf_int_Form := T.nf_int_Form
    have t_k_Form := T.k_Form
    have t_k_Scheme := T.k_Scheme
    refine ⟨_, (pss_cons (ps_set (i := 1) sc_l_limit.nd rfl (Or.inl rfl) (pe_lst (pa_cons (pe_tup (pa_cons pe_int (pa_cons pe_int pa_nil))) (pa_cons (pe_tup (pa_cons pe_int (pa_cons (pe_un un_neg pe_int) pa_nil))) (pa_cons (pe_tup (pa_cons pe_int (pa_cons pe_int pa_nil))) (pa_cons (pe_tup (pa_cons pe_int (pa_cons pe_int pa_nil))) (pa_cons (pe_tup (pa_cons pe_int (pa_cons pe_int pa_nil))) (pa_cons (pe_tup (pa_cons pe_int (pa_cons pe_int pa_nil))) (pa_cons (pe_tup (pa_cons pe_int (pa_cons pe_int pa_nil))) (pa_cons (pe_tup (pa_cons pe_int (pa_cons pe_int pa_nil))) pa_nil))))))))))
      (pss_cons (ps_expr (pe_bm PySem.F.plainAttrs_list PySem.F.slot_list_append PySem.F.type_list_append mt_append (pv 1) (pa_cons (pe_tup (pa_cons (pe_call (ok_l_draw T) (hr.mono (by decide)) (by rfl) T.m_l_draw T.F_l_draw.kp T.b_l_draw .nil pass0 (pa_cons (pv 0) (pa_cons pe_int pa_nil))) (pa_cons (pe_op op_sub (pe_call (ok_l_draw T) (hr.mono (by decide)) (by rfl) T.m_l_draw T.F_l_draw.kp T.b_l_draw .nil pass0 (pa_cons (pv 0) (pa_cons pe_int pa_nil))) pe_int) pa_nil))) pa_nil)))
      (pss_cons (ps_expr (pe_bm PySem.F.plainAttrs_list PySem.F.slot_list_append PySem.F.type_list_append mt_append (pv 1) (pa_cons (pe_tup (pa_cons pe_int (pa_cons (pe_op op_sub (pe_call (ok_l_draw T) (hr.mono (by decide)) (by rfl) T.m_l_draw T.F_l_draw.kp T.b_l_draw .nil pass0 (pa_cons (pv 0) (pa_cons pe_int pa_nil))) pe_int) pa_nil))) pa_nil)))
      (pss_one (ps_ret (pe_call (ok_l_pick T) (hr.mono (by decide)) (by rfl) T.m_l_pick T.F_l_pick.kp T.b_l_pick .nil pass0 (pa_cons (pv 0) (pa_cons (pv 1) pa_nil)))))))), ?_⟩
    try dsimp only [L2.cxOf, L2.Cx.nox, L2.Cx.wish]
    with_reducible refine Rd.seq (Rd.asg (Rd.lst (Rd.cons (Rd.tup (Rd.cons (Rd.c (Rd.cons (Rd.c (Rd.nil (Rd.laid (by walk_at "ll") ?_))))))))))
    intro p1 np1
    have ap_p1_a : p1 ≠ a := ne_none' np1 (by walk_at "hp")
    with_reducible refine Rd.cons (Rd.tup (Rd.cons (Rd.c (Rd.cons (Rd.un (Rd.c (Rd.iU (Rd.nil (Rd.laid (by walk_at "ll") ?_)))))))))
    intro p2 np2
    have ap_p2_a : p2 ≠ a := ne_none' np2 (by walk_at "hp")
    with_reducible refine Rd.cons (Rd.tup (Rd.cons (Rd.c (Rd.cons (Rd.c (Rd.nil (Rd.laid (by walk_at "ll") ?_)))))))
    intro p3 np3
    have ap_p3_a : p3 ≠ a := ne_none' np3 (by walk_at "hp")
    with_reducible refine Rd.cons (Rd.tup (Rd.cons (Rd.c (Rd.cons (Rd.c (Rd.nil (Rd.laid (by walk_at "ll") ?_)))))))
    intro p4 np4
    have ap_p4_a : p4 ≠ a := ne_none' np4 (by walk_at "hp")
    with_reducible refine Rd.cons (Rd.tup (Rd.cons (Rd.c (Rd.cons (Rd.c (Rd.nil (Rd.laid (by walk_at "ll") ?_)))))))
    intro p5 np5
    have ap_p5_a : p5 ≠ a := ne_none' np5 (by walk_at "hp")
    with_reducible refine Rd.cons (Rd.tup (Rd.cons (Rd.c (Rd.cons (Rd.c (Rd.nil (Rd.laid (by walk_at "ll") ?_)))))))
    intro p6 np6
    have ap_p6_a : p6 ≠ a := ne_none' np6 (by walk_at "hp")
    with_reducible refine Rd.cons (Rd.tup (Rd.cons (Rd.c (Rd.cons (Rd.c (Rd.nil (Rd.laid (by walk_at "ll") ?_)))))))
    intro p7 np7
    have ap_p7_a : p7 ≠ a := ne_none' np7 (by walk_at "hp")
    with_reducible refine Rd.cons (Rd.tup (Rd.cons (Rd.c (Rd.cons (Rd.c (Rd.nil (Rd.laid (by walk_at "ll") ?_)))))))
    intro p8 np8
    have ap_p8_a : p8 ≠ a := ne_none' np8 (by walk_at "hp")
    with_reducible refine Rd.nil (Rd.laid (by walk_at "ll") ?_)
    intro p0 np0
    have ap_p0_a : p0 ≠ a := ne_none' np0 (by walk_at "hp")
    with_reducible refine Rd.name ?_
    refine Rd.comp (fun Hx => Same H Hx ∧ Hx p0 = some (.lst [V.ref p1, V.ref p2, V.ref p3, V.ref p4, V.ref p5, V.ref p6, V.ref p7, V.ref p8]) ∧ p0 ≠ a ∧ H p0 = none ∧ ∀ v ∈ [V.ref p1, V.ref p2, V.ref p3, V.ref p4, V.ref p5, V.ref p6, V.ref p7, V.ref p8], Lim Hx v) ⟨(by walk_at "frm"), (by walk_at "hp"), ap_p0_a, (by walk_at "nn"), ?_⟩ (fun H1 ⟨S1, l1, ne1, fr1, m1⟩ => ?_)
    · intro v hv
      simp only [List.mem_cons, List.not_mem_nil, or_false] at hv
      rcases hv with rfl | rfl | rfl | rfl | rfl | rfl | rfl | rfl <;> exact ⟨_, _, _, rfl, (by walk_at "hp"), (by omega), (by omega), (by omega), (by omega)⟩
    have ha1 := S1 _ _ ha
    clear np0 np1 np2 np3 np4 np5 np6 np7 np8
    with_reducible refine Rd.seq (Rd.drop ?_)
    try unfold tBM
    with_reducible refine Rd.var (by walk_at "vr") ?_
    refine ⟨Or.inl ⟨rfl, _, (by walk_at "hpl")⟩, ?_⟩
    with_reducible refine Rd.cons (Rd.tup (Rd.cons (Rd.call (Rd.cons (Rd.var (by walk_at "vr") (Rd.cons (Rd.c (Rd.nil ?_))))))))
    refine ⟨_, _, _, rfl, (by walk_at "hp"), (by walk_at "sc"), (by walk_at "sc"), (by walk_at "sc"), fun d1 o1 d1a d1b s1 => ?_⟩
    with_reducible refine Rd.cons (Rd.op (Rd.call (Rd.cons (Rd.var (by walk_at "vr") (Rd.cons (Rd.c (Rd.nil ?_)))))))
    refine ⟨_, _, _, rfl, (by walk_at "hp"), (by walk_at "sc"), (by walk_at "sc"), (by walk_at "sc"), fun d2 o2 d2a d2b s2 => ?_⟩
    with_reducible refine Rd.c (Rd.i0 (Rd.nil (Rd.laid (by walk_at "ll") ?_)))
    intro p9 np9
    have ap_p9_a : p9 ≠ a := ne_none' np9 (by walk_at "hp")
    with_reducible refine Rd.nil ?_
    refine ⟨_, _, _, rfl, rfl, (by walk_at "hp"), (by walk_at "sz"), ?_⟩
    with_reducible refine Rd.seq (Rd.drop ?_)
    try unfold tBM
    with_reducible refine Rd.var (by walk_at "vr") ?_
    refine ⟨Or.inl ⟨rfl, _, (by walk_at "hpl")⟩, ?_⟩
    with_reducible refine Rd.cons (Rd.tup (Rd.cons (Rd.c (Rd.cons (Rd.op (Rd.call (Rd.cons (Rd.var (by walk_at "vr") (Rd.cons (Rd.c (Rd.nil ?_)))))))))))
    refine ⟨_, _, _, rfl, (by walk_at "hp"), (by walk_at "sc"), (by walk_at "sc"), (by walk_at "sc"), fun d3 o3 d3a d3b s3 => ?_⟩
    with_reducible refine Rd.c (Rd.i0 (Rd.nil (Rd.laid (by walk_at "ll") ?_)))
    intro p10 np10
    have ap_p10_a : p10 ≠ a := ne_none' np10 (by walk_at "hp")
    with_reducible refine Rd.nil ?_
    refine ⟨_, _, _, rfl, rfl, (by walk_at "hp"), (by walk_at "sz"), ?_⟩
    with_reducible refine Rd.ret (Rd.call (Rd.cons (Rd.var (by walk_at "vr") (Rd.cons (Rd.var (by walk_at "vr") (Rd.nil ?_))))))
    refine ⟨_, _, _, _, rfl, (by walk_at "hp"), (by walk_at "sc"), (by walk_at "hp"), (by first | with_reducible assumption | walk_at "ll0"), (by first | with_reducible assumption | walk_at "ll"), (by walk_at "ne"), fun v4 o4 H4 m4 F4 r4 so4 => ?_⟩
    refine k _ _ _ (by walk_at "frm") (by walk_at "hp") (by assumption) ?_
    simp only [List.mem_append, List.mem_singleton] at m4
    rcases m4 with (m4 | rfl) | rfl
    · obtain ⟨p, s, b, rfl, hp, hb⟩ := m1 _ m4
      obtain ⟨x0, y0, rfl, _⟩ := ho
      have na : p ≠ a := L2.ne_of hp ha1 (by intro z; cases z)
      have nl : p ≠ p0 := L2.ne_of hp l1 (by intro z; cases z)
      exact ⟨p, s, b, rfl, (by walk_at "hp"), hb⟩
    · exact ⟨_, _, _, rfl, (by walk_at "hp"), (by omega), (by omega), (by omega), (by omega)⟩
    · exact ⟨_, _, _, rfl, (by walk_at "hp"), (by omega), (by omega), (by omega), (by omega)⟩
/-! _law_parts -/
theorem sc_l_parts : FnScope ["_law_source_here", "_law_widest", "_law_turning", "_law_slots", "_law_kind", "_law_filled", "_law_bare"] ["_law_source_here", "_law_widest"] (defScope s_l_parts) := ⟨rfl, rfl, rfl, by decide +kernel, rfl, by decide +kernel, by decide +kernel⟩
abbrev sp_l_parts (K : PySem.W.Frag) (A : Adr) : Sp := fun vs H Q _ => ∃ (a : Addr) (o : HO) (w : Int), vs = [.ref a, .int w] ∧ H a = some o ∧ SrcO o ∧ 1 ≤ w ∧ w ≤ 100 ∧ ∀ (v : V) (t : Pt) (o' : HO) (H' : Hp), Frm a H H' → H' a = some o' → SrcO o' → IsParts H' v t → Wf t → (∀ u, t.wrap = .width u → u ≤ w) → Q v H'
theorem ok_l_parts (T : Txt w K mg A) : FnOk P w K mg base CX0 4 A.f_l_parts A.d_l_parts ["_law_source_here", "_law_widest"] (sp_l_parts K A) := by
  refine T.F_l_parts.ok sc_l_parts (fun vs H Q E h => ?_) (fun cdv Ar outer s H vs Q E hr h => ?_)
  · obtain ⟨a, o, w, rfl, ha, ho, w1, w2, k⟩ := h
    rfl
  · obtain ⟨a, o, w, rfl, ha, ho, w1, w2, k⟩ := h
    have hu := hu_of hr
    have t_q_PART_NAMES := T.q_PART_NAMES
    have t_q_PART_WORDS_slot := T.q_PART_WORDS_slot
    have t_d_PART_WORDS_slot := T.d_PART_WORDS_slot
    have t_q_PART_WORDS_empty := T.q_PART_WORDS_empty
    have t_d_PART_WORDS_empty := T.d_PART_WORDS_empty
    have t_q_PART_WORDS_when := T.q_PART_WORDS_when
    have t_d_PART_WORDS_when := T.d_PART_WORDS_when
    have t_q_MEASURES := T.q_MEASURES
    have t_q_SIGNS := T.q_SIGNS
    have t_q_PLAIN_FULLS := T.q_PLAIN_FULLS
    have t_i_Form := T.i_Form
    have t_kt_Form_Form := T.kt_Form_Form
    have t_kt_int_Form := T.kt_int_Form
    have t_nf_Form_Form := T.nf_Form_Form
    have t_nf_int_Form := T.nf_int_Form
    have t_k_Form := T.k_Form
    have t_k_Scheme := T.k_Scheme
    refine ⟨_, (pss_cons (ps_set (i := 2) sc_l_parts.nd rfl (Or.inl rfl) (pe_call (ok_l_pick T) (hr.mono (by decide)) (by rfl) T.m_l_pick T.F_l_pick.kp T.b_l_pick .nil pass0 (pa_cons (pv 0) (pa_cons (pe_lst (pa_cons (pe_tup (pa_cons pe_int (pa_cons pe_int pa_nil))) (pa_cons (pe_tup (pa_cons pe_int (pa_cons pe_int pa_nil))) (pa_cons (pe_tup (pa_cons pe_int (pa_cons pe_int pa_nil))) (pa_cons (pe_tup (pa_cons pe_int (pa_cons pe_int pa_nil))) (pa_cons (pe_tup (pa_cons pe_int (pa_cons pe_int pa_nil))) (pa_cons (pe_tup (pa_cons pe_int (pa_cons pe_int pa_nil))) (pa_cons (pe_tup (pa_cons pe_int (pa_cons (pe_un un_neg pe_int) pa_nil))) (pa_cons (pe_tup (pa_cons pe_int (pa_cons pe_int pa_nil))) (pa_cons (pe_call (ok_l_limit T) (hr.mono (by decide)) (by rfl) T.m_l_limit T.F_l_limit.kp T.b_l_limit .nil pass0 (pa_cons (pv 0) pa_nil)) pa_nil)))))))))) pa_nil))))
      (pss_cons (ps_set (i := 3) sc_l_parts.nd rfl (Or.inl rfl) (pe_lst (pa_cons pe_str (pa_cons pe_str (pa_cons pe_str pa_nil)))))
      (pss_cons (ps_if (pt_cmpR op_eq (pe_call (ok_l_draw T) (hr.mono (by decide)) (by rfl) T.m_l_draw T.F_l_draw.kp T.b_l_draw .nil pass0 (pa_cons (pv 0) (pa_cons pe_int pa_nil))) pe_int (nomark _)) (pss_cons (ps_set (i := 2) sc_l_parts.nd rfl (Or.inl rfl) (pe_op op_add pe_int (pe_call (ok_l_draw T) (hr.mono (by decide)) (by rfl) T.m_l_draw T.F_l_draw.kp T.b_l_draw .nil pass0 (pa_cons (pv 0) (pa_cons (pv 1) pa_nil)))))
      (pss_one (ps_set (i := 3) sc_l_parts.nd rfl (Or.inl rfl) (pe_lst (pa_cons pe_str (pa_cons pe_str (pa_cons pe_str (pa_cons pe_str pa_nil)))))))) pss_nil)
      (pss_cons (ps_set (i := 4) sc_l_parts.nd rfl (Or.inl rfl) (pe_call (ok_l_pick T) (hr.mono (by decide)) (by rfl) T.m_l_pick T.F_l_pick.kp T.b_l_pick .nil pass0 (pa_cons (pv 0) (pa_cons (pe_lst (pa_cons pe_str (pa_cons pe_str (pa_cons pe_str (pa_cons pe_str (pa_cons pe_str pa_nil)))))) pa_nil))))
      (pss_cons (ps_set (i := 5) sc_l_parts.nd rfl (Or.inl rfl) (pe_tup (pa_cons (pv 4) pa_nil)))
      (pss_cons (ps_if (pt_cmpR op_in_seq (pv 4) (pe_tup (pa_cons pe_str (pa_cons pe_str pa_nil))) (by with_unfolding_all rfl)) (pss_one (ps_set (i := 5) sc_l_parts.nd rfl (Or.inl rfl) (pe_tup (pa_cons (pv 4) (pa_cons (pe_call (ok_l_pick T) (hr.mono (by decide)) (by rfl) T.m_l_pick T.F_l_pick.kp T.b_l_pick .nil pass0 (pa_cons (pv 0) (pa_cons (pe_lst (pa_cons pe_str (pa_cons pe_str pa_nil))) pa_nil))) (pa_cons (pe_call (ok_l_limit T) (hr.mono (by decide)) (by rfl) T.m_l_limit T.F_l_limit.kp T.b_l_limit .nil pass0 (pa_cons (pv 0) pa_nil)) pa_nil)))))) pss_nil)
      (pss_cons (ps_set (i := 6) sc_l_parts.nd rfl (Or.inl rfl) (pe_call (ok_l_pick T) (hr.mono (by decide)) (by rfl) T.m_l_pick T.F_l_pick.kp T.b_l_pick .nil pass0 (pa_cons (pv 0) (pa_cons (pe_lst (pa_cons pe_str (pa_cons pe_str (pa_cons pe_str (pa_cons pe_str pa_nil))))) pa_nil))))
      (pss_one (ps_ret (pe_tup (pa_cons (pv 2) (pa_cons (pe_call (ok_l_pick T) (hr.mono (by decide)) (by rfl) T.m_l_pick T.F_l_pick.kp T.b_l_pick .nil pass0 (pa_cons (pv 0) (pa_cons (pv 3) pa_nil))) (pa_cons (pv 6) (pa_cons (pv 5) (pa_cons (pe_call (ok_l_pick T) (hr.mono (by decide)) (by rfl) T.m_l_pick T.F_l_pick.kp T.b_l_pick .nil pass0 (pa_cons (pv 0) (pa_cons (pe_lst (pa_cons pe_str (pa_cons pe_str (pa_cons pe_str (pa_cons pe_str pa_nil))))) pa_nil))) pa_nil))))))))))))))), ?_⟩
    try dsimp only [L2.cxOf, L2.Cx.nox, L2.Cx.wish]
    with_reducible refine Rd.seq (Rd.asg (Rd.call (Rd.cons (Rd.var (by walk_at "vr") (Rd.cons (Rd.lst (Rd.cons (Rd.tup (Rd.cons (Rd.c (Rd.cons ?_)))))))))))
    with_reducible refine Rd.c (Rd.nil (Rd.laid (by walk_at "ll") ?_))
    intro p1 np1
    have ap_p1_a : p1 ≠ a := ne_none' np1 (by walk_at "hp")
    with_reducible refine Rd.cons (Rd.tup (Rd.cons (Rd.c (Rd.cons (Rd.c (Rd.nil (Rd.laid (by walk_at "ll") ?_)))))))
    intro p2 np2
    have ap_p2_a : p2 ≠ a := ne_none' np2 (by walk_at "hp")
    with_reducible refine Rd.cons (Rd.tup (Rd.cons (Rd.c (Rd.cons (Rd.c (Rd.nil (Rd.laid (by walk_at "ll") ?_)))))))
    intro p3 np3
    have ap_p3_a : p3 ≠ a := ne_none' np3 (by walk_at "hp")
    with_reducible refine Rd.cons (Rd.tup (Rd.cons (Rd.c (Rd.cons (Rd.c (Rd.nil (Rd.laid (by walk_at "ll") ?_)))))))
    intro p4 np4
    have ap_p4_a : p4 ≠ a := ne_none' np4 (by walk_at "hp")
    with_reducible refine Rd.cons (Rd.tup (Rd.cons (Rd.c (Rd.cons (Rd.c (Rd.nil (Rd.laid (by walk_at "ll") ?_)))))))
    intro p5 np5
    have ap_p5_a : p5 ≠ a := ne_none' np5 (by walk_at "hp")
    with_reducible refine Rd.cons (Rd.tup (Rd.cons (Rd.c (Rd.cons (Rd.c (Rd.nil (Rd.laid (by walk_at "ll") ?_)))))))
    intro p6 np6
    have ap_p6_a : p6 ≠ a := ne_none' np6 (by walk_at "hp")
    with_reducible refine Rd.cons (Rd.tup (Rd.cons (Rd.c (Rd.cons (Rd.un (Rd.c (Rd.iU (Rd.nil (Rd.laid (by walk_at "ll") ?_)))))))))
    intro p7 np7
    have ap_p7_a : p7 ≠ a := ne_none' np7 (by walk_at "hp")
    with_reducible refine Rd.cons (Rd.tup (Rd.cons (Rd.c (Rd.cons (Rd.c (Rd.nil (Rd.laid (by walk_at "ll") ?_)))))))
    intro p8 np8
    have ap_p8_a : p8 ≠ a := ne_none' np8 (by walk_at "hp")
    with_reducible refine Rd.cons (Rd.call (Rd.cons (Rd.var (by walk_at "vr") (Rd.nil ?_))))
    refine ⟨_, _, rfl, (by walk_at "hp"), (by walk_at "sc"), fun v1 o1 H1 F1 r1 so1 l1 => ?_⟩
    with_reducible refine Rd.nil (Rd.laid (by walk_at "ll") ?_)
    intro p0 np0
    have ap_p0_a : p0 ≠ a := ne_none' np0 (by walk_at "hp")
    with_reducible refine Rd.nil ?_
    refine ⟨_, _, _, _, rfl, (by walk_at "hp"), (by walk_at "sc"), (by walk_at "hp"), (by first | with_reducible assumption | walk_at "ll0"), (by first | with_reducible assumption | walk_at "ll"), (by walk_at "ne"), fun v2 o2 H2 m2 F2 r2 so2 => ?_⟩
    with_reducible refine Rd.name ?_
    try dsimp only [Int.reduceToNat, List.set]
    refine Rd.comp (fun Hx => ∃ oo, Frm a H Hx ∧ Hx a = some oo ∧ SrcO oo ∧ Lim Hx v2) ⟨_, (by walk_at "frm"), (by walk_at "hp"), (by assumption), ?_⟩ (fun Hb ⟨ob, Fb, hb, sb, lb⟩ => ?_)
    · simp only [List.mem_cons, List.not_mem_nil, or_false] at m2
      rcases m2 with m2 | m2 | m2 | m2 | m2 | m2 | m2 | m2 | m2
      · subst m2
        exact ⟨_, _, _, rfl, (by walk_at "hp"), (by omega), (by omega), (by omega), (by omega)⟩
      · subst m2
        exact ⟨_, _, _, rfl, (by walk_at "hp"), (by omega), (by omega), (by omega), (by omega)⟩
      · subst m2
        exact ⟨_, _, _, rfl, (by walk_at "hp"), (by omega), (by omega), (by omega), (by omega)⟩
      · subst m2
        exact ⟨_, _, _, rfl, (by walk_at "hp"), (by omega), (by omega), (by omega), (by omega)⟩
      · subst m2
        exact ⟨_, _, _, rfl, (by walk_at "hp"), (by omega), (by omega), (by omega), (by omega)⟩
      · subst m2
        exact ⟨_, _, _, rfl, (by walk_at "hp"), (by omega), (by omega), (by omega), (by omega)⟩
      · subst m2
        exact ⟨_, _, _, rfl, (by walk_at "hp"), (by omega), (by omega), (by omega), (by omega)⟩
      · subst m2
        exact ⟨_, _, _, rfl, (by walk_at "hp"), (by omega), (by omega), (by omega), (by omega)⟩
      · rw [m2]
        exact Lim.frmS F2 (by walk_at "hp") (by assumption) (l1.same (by walk_at "frm"))
    obtain ⟨pt, ts, tb, rfl, hpt, tb1, tb2, tb3, tb4⟩ := lb
    obtain ⟨xb, yb, rfl, sb1⟩ := sb
    have ptne : pt ≠ a := L2.ne_of hpt hb (by intro z; cases z)
    have sb : SrcO (.lst [.int xb, .int yb]) := ⟨xb, yb, rfl, sb1⟩
    with_reducible refine Rd.seq (Rd.asg (Rd.lst (Rd.cons (Rd.c (Rd.cons (Rd.c (Rd.cons (Rd.c (Rd.nil (Rd.laid (by walk_at "ll") ?_))))))))))
    intro p9 np9
    have ap_p9_a : p9 ≠ a := ne_none' np9 (by walk_at "hp")
    with_reducible refine Rd.name ?_
    try dsimp only [Int.reduceToNat, List.set]
    with_reducible refine Rd.seq ?_
    refine Rd.ifJ (fun σ' H' => ∃ (vt : V) (l : Addr) (t : Wr) (xs : List V) (oo : HO), σ' = [some (.ref a), some (.int w), some vt, some (.ref l), none, none, none] ∧ Frm a H H' ∧ H' a = some oo ∧ SrcO oo ∧ IsTurn H' vt t ∧ WfW t ∧ (∀ u, t = .width u → u ≤ w) ∧ H' l = some (.lst xs) ∧ l ≠ a ∧ 0 < xs.length ∧ xs.length ≤ 100 ∧ ∀ x ∈ xs, ∃ s, x = .str s ∧ s ∈ wSlot ∧ (∀ s' b', t = .form s' b' → s ≠ "mask")) ?_ ?_
    · intro key
      with_reducible refine Rd.ifS (Rd.test (Rd.op (Rd.call (Rd.cons (Rd.var (by walk_at "vr") (Rd.cons (Rd.c (Rd.nil ?_))))))))
      refine ⟨_, _, _, rfl, (by walk_at "hp"), (by walk_at "sc"), (by walk_at "sc"), (by walk_at "sc"), fun d3 o3 d3a d3b s3 => ?_⟩
      with_reducible refine Rd.c (Rd.eqS (by walk_at "vr") (Rd.bl ?_))
      refine Rd.ite (fun h0 => ?_) (fun h0 => ?_)
      · try simp only [decide_eq_true_eq, Bool.not_eq_true', decide_eq_false_iff_not, Bool.not_eq_true, Bool.not_eq_eq_eq_not, Bool.not_true, Bool.not_false] at h0
        with_reducible refine Rd.seq (Rd.asg (Rd.op (Rd.c (Rd.call (Rd.cons (Rd.var (by walk_at "vr") (Rd.cons (Rd.var (by walk_at "vr") (Rd.nil ?_)))))))))
        refine ⟨_, _, _, rfl, (by walk_at "hp"), (by walk_at "sc"), (by walk_at "sc"), (by walk_at "sc"), fun d4 o4 d4a d4b s4 => ?_⟩
        with_reducible refine Rd.i0 (Rd.name ?_)
        try dsimp only [Int.reduceToNat, List.set]
        with_reducible refine Rd.asg (Rd.lst (Rd.cons (Rd.c (Rd.cons (Rd.c (Rd.cons (Rd.c (Rd.cons (Rd.c (Rd.nil (Rd.laid (by walk_at "ll") ?_)))))))))))
        intro p10 np10
        have ap_p10_a : p10 ≠ a := ne_none' np10 (by walk_at "hp")
        with_reducible refine Rd.name ?_
        try dsimp only [Int.reduceToNat, List.set]
        first
          | exact key _ _ ⟨_, _, .width (1 + d4), _, _, rfl, (by walk_at "frm"), (by walk_at "hp"), (by assumption), rfl, ⟨by omega, by omega⟩, (by intro u hu; cases hu; omega), (by walk_at "hp"), (by walk_at "ne"), (by walk_at "ll0"), (by walk_at "ll"), (by intro x hx; simp only [List.mem_cons, List.not_mem_nil, or_false] at hx; rcases hx with rfl | rfl | rfl | rfl <;> exact ⟨_, rfl, (by decide +kernel), (fun _ _ z => by cases z)⟩)⟩
          | exact key _ _ ⟨_, _, .form ts tb, _, _, rfl, (by walk_at "frm"), (by walk_at "hp"), (by assumption), ⟨_, rfl, (by walk_at "hp")⟩, ⟨tb1, tb2, tb3, tb4⟩, (by intro u hu; cases hu), (by walk_at "hp"), (by walk_at "ne"), (by walk_at "ll0"), (by walk_at "ll"), (by intro x hx; simp only [List.mem_cons, List.not_mem_nil, or_false] at hx; rcases hx with rfl | rfl | rfl <;> exact ⟨_, rfl, (by decide +kernel), (fun _ _ _ => by decide +kernel)⟩)⟩
      · try simp only [decide_eq_true_eq, Bool.not_eq_true', decide_eq_false_iff_not, Bool.not_eq_true, Bool.not_eq_eq_eq_not, Bool.not_true, Bool.not_false, Int.not_lt, Int.not_le, Decidable.not_not] at h0
        with_reducible refine Rd.next ?_
        first
          | exact key _ _ ⟨_, _, .width (1 + d4), _, _, rfl, (by walk_at "frm"), (by walk_at "hp"), (by assumption), rfl, ⟨by omega, by omega⟩, (by intro u hu; cases hu; omega), (by walk_at "hp"), (by walk_at "ne"), (by walk_at "ll0"), (by walk_at "ll"), (by intro x hx; simp only [List.mem_cons, List.not_mem_nil, or_false] at hx; rcases hx with rfl | rfl | rfl | rfl <;> exact ⟨_, rfl, (by decide +kernel), (fun _ _ z => by cases z)⟩)⟩
          | exact key _ _ ⟨_, _, .form ts tb, _, _, rfl, (by walk_at "frm"), (by walk_at "hp"), (by assumption), ⟨_, rfl, (by walk_at "hp")⟩, ⟨tb1, tb2, tb3, tb4⟩, (by intro u hu; cases hu), (by walk_at "hp"), (by walk_at "ne"), (by walk_at "ll0"), (by walk_at "ll"), (by intro x hx; simp only [List.mem_cons, List.not_mem_nil, or_false] at hx; rcases hx with rfl | rfl | rfl <;> exact ⟨_, rfl, (by decide +kernel), (fun _ _ _ => by decide +kernel)⟩)⟩
    · rintro σ' Hc ⟨vt, lc, t, xs, oc, rfl, Fc, hc, sc, ht, wt, wu, hl, lne, xl0, xl1, hx⟩
      obtain ⟨xc, yc, rfl, sc1⟩ := sc
      have sc : SrcO (.lst [.int xc, .int yc]) := ⟨xc, yc, rfl, sc1⟩
      with_reducible refine Rd.seq (Rd.asg (Rd.call (Rd.cons (Rd.var (by walk_at "vr") (Rd.cons (Rd.lst (Rd.cons (Rd.c (Rd.cons (Rd.c (Rd.cons ?_)))))))))))
      with_reducible refine Rd.c (Rd.cons (Rd.c (Rd.cons (Rd.c (Rd.nil (Rd.laid (by walk_at "ll") ?_))))))
      intro p11 np11
      have ap_p11_a : p11 ≠ a := ne_none' np11 (by walk_at "hp")
      with_reducible refine Rd.nil ?_
      refine ⟨_, _, _, _, rfl, (by walk_at "hp"), (by walk_at "sc"), (by walk_at "hp"), (by first | with_reducible assumption | walk_at "ll0"), (by first | with_reducible assumption | walk_at "ll"), (by walk_at "ne"), fun v5 o5 H5 m5 F5 r5 so5 => ?_⟩
      with_reducible refine Rd.name ?_
      try dsimp only [Int.reduceToNat, List.set]
      obtain ⟨kk, rfl, hkk⟩ : ∃ kk, v5 = V.str kk ∧ (kk ∈ wMeas ∨ kk ∈ wPlain) := by
        simp only [List.mem_cons, List.not_mem_nil, or_false] at m5
        rcases m5 with rfl | rfl | rfl | rfl | rfl <;> first | exact ⟨_, rfl, .inl (by decide +kernel)⟩ | exact ⟨_, rfl, .inr (by decide +kernel)⟩
      with_reducible refine Rd.seq (Rd.asg (Rd.tup (Rd.cons (Rd.var (by walk_at "vr") (Rd.nil (Rd.laid (by walk_at "ll") ?_))))))
      intro p12 np12
      have ap_p12_a : p12 ≠ a := ne_none' np12 (by walk_at "hp")
      with_reducible refine Rd.name ?_
      try dsimp only [Int.reduceToNat, List.set]
      with_reducible refine Rd.seq ?_
      refine Rd.ifJ (fun σ' H' => ∃ (vf : V) (f : Fl) (xd yd : Int), σ' = [some (.ref a), some (.int w), some vt, some (.ref lc), some (.str kk), some vf, none] ∧ Frm a H H' ∧ H' a = some (.lst [.int xd, .int yd]) ∧ SrcO (.lst [.int xd, .int yd]) ∧ IsTurn H' vt t ∧ H' lc = some (.lst xs) ∧ IsFill H' vf f ∧ WfF f) ?_ ?_
      · intro key
        with_reducible refine Rd.ifS (Rd.test (Rd.op (Rd.var (by walk_at "vr") (Rd.tup (Rd.cons (Rd.c (Rd.cons (Rd.c (Rd.nil (Rd.laid (by walk_at "ll") ?_))))))))))
        intro p13 np13
        have ap_p13_a : p13 ≠ a := ne_none' np13 (by walk_at "hp")
        refine Rd.inT (.inr (by walk_at "hpt")) rfl (by walk_at "flt") ?_
        with_reducible refine Rd.bl ?_
        refine Rd.ite (fun h1 => ?_) (fun h1 => ?_)
        · try simp only [decide_eq_true_eq, Bool.not_eq_true', decide_eq_false_iff_not, Bool.not_eq_true, Bool.not_eq_eq_eq_not, Bool.not_true, Bool.not_false] at h1
          with_reducible refine Rd.asg (Rd.tup (Rd.cons (Rd.var (by walk_at "vr") (Rd.cons (Rd.call (Rd.cons (Rd.var (by walk_at "vr") (Rd.cons (Rd.lst (Rd.cons (Rd.c ?_)))))))))))
          with_reducible refine Rd.cons (Rd.c (Rd.nil (Rd.laid (by walk_at "ll") ?_)))
          intro p15 np15
          have ap_p15_a : p15 ≠ a := ne_none' np15 (by walk_at "hp")
          with_reducible refine Rd.nil ?_
          refine ⟨_, _, _, _, rfl, (by walk_at "hp"), (by walk_at "sc"), (by walk_at "hp"), (by first | with_reducible assumption | walk_at "ll0"), (by first | with_reducible assumption | walk_at "ll"), (by walk_at "ne"), fun v6 o6 H6 m6 F6 r6 so6 => ?_⟩
          with_reducible refine Rd.cons (Rd.call (Rd.cons (Rd.var (by walk_at "vr") (Rd.nil ?_))))
          refine ⟨_, _, rfl, (by walk_at "hp"), (by walk_at "sc"), fun v7 o7 H7 F7 r7 so7 l7 => ?_⟩
          with_reducible refine Rd.nil (Rd.laid (by walk_at "ll") ?_)
          intro p14 np14
          have ap_p14_a : p14 ≠ a := ne_none' np14 (by walk_at "hp")
          with_reducible refine Rd.name ?_
          try dsimp only [Int.reduceToNat, List.set]
          first
            | (obtain ⟨pz, zs, zb, rfl, hz, z1, z2, z3, z4⟩ := l7
               obtain ⟨gg, rfl, hgg⟩ : ∃ gg, v6 = V.str gg ∧ gg ∈ wSign := by
                 simp only [List.mem_cons, List.not_mem_nil, or_false] at m6
                 rcases m6 with rfl | rfl <;> exact ⟨_, rfl, (by decide +kernel)⟩
               have hk2 : kk ∈ wMeas := by
                 have e := h1.symm.trans (Rd.inW_iff (s := kk) (ws := wMeas))
                 exact of_decide_eq_true e.symm
               obtain ⟨xd, yd, rfl, sd1⟩ := so7
               exact key _ _ ⟨_, .lim kk gg zs zb, _, _, rfl, (by walk_at "frm"), (by walk_at "hp"), ⟨_, _, rfl, sd1⟩, ht.keep (fun p xs h => by have n1 : p ≠ a := L2.ne_of h hc (by intro z; cases z); have n2 : p ≠ lc := L2.ne_of h hl (by intro z; cases z); walk_at "hp"), (by walk_at "hp"), ⟨_, _, rfl, (by walk_at "hp"), (by walk_at "hp")⟩, ⟨hk2, hgg, z1, z2, z3, z4⟩⟩)
            | (have hk2 : kk ∈ wPlain := by
                 rcases hkk with hkk | hkk
                 · exact Bool.noConfusion ((Rd.inW (ws := wMeas) hkk).symm.trans h1)
                 · exact hkk
               obtain ⟨xd, yd, rfl, sd1⟩ := so5
               exact key _ _ ⟨_, .plain kk, _, _, rfl, (by walk_at "frm"), (by walk_at "hp"), ⟨_, _, rfl, sd1⟩, ht.keep (fun p xs h => by have n1 : p ≠ a := L2.ne_of h hc (by intro z; cases z); have n2 : p ≠ lc := L2.ne_of h hl (by intro z; cases z); walk_at "hp"), (by walk_at "hp"), ⟨_, rfl, (by walk_at "hp")⟩, hk2⟩)
        · try simp only [decide_eq_true_eq, Bool.not_eq_true', decide_eq_false_iff_not, Bool.not_eq_true, Bool.not_eq_eq_eq_not, Bool.not_true, Bool.not_false, Int.not_lt, Int.not_le, Decidable.not_not] at h1
          with_reducible refine Rd.next ?_
          first
            | (obtain ⟨pz, zs, zb, rfl, hz, z1, z2, z3, z4⟩ := l7
               obtain ⟨gg, rfl, hgg⟩ : ∃ gg, v6 = V.str gg ∧ gg ∈ wSign := by
                 simp only [List.mem_cons, List.not_mem_nil, or_false] at m6
                 rcases m6 with rfl | rfl <;> exact ⟨_, rfl, (by decide +kernel)⟩
               have hk2 : kk ∈ wMeas := by
                 have e := h1.symm.trans (Rd.inW_iff (s := kk) (ws := wMeas))
                 exact of_decide_eq_true e.symm
               obtain ⟨xd, yd, rfl, sd1⟩ := so7
               exact key _ _ ⟨_, .lim kk gg zs zb, _, _, rfl, (by walk_at "frm"), (by walk_at "hp"), ⟨_, _, rfl, sd1⟩, ht.keep (fun p xs h => by have n1 : p ≠ a := L2.ne_of h hc (by intro z; cases z); have n2 : p ≠ lc := L2.ne_of h hl (by intro z; cases z); walk_at "hp"), (by walk_at "hp"), ⟨_, _, rfl, (by walk_at "hp"), (by walk_at "hp")⟩, ⟨hk2, hgg, z1, z2, z3, z4⟩⟩)
            | (have hk2 : kk ∈ wPlain := by
                 rcases hkk with hkk | hkk
                 · exact Bool.noConfusion ((Rd.inW (ws := wMeas) hkk).symm.trans h1)
                 · exact hkk
               obtain ⟨xd, yd, rfl, sd1⟩ := so5
               exact key _ _ ⟨_, .plain kk, _, _, rfl, (by walk_at "frm"), (by walk_at "hp"), ⟨_, _, rfl, sd1⟩, ht.keep (fun p xs h => by have n1 : p ≠ a := L2.ne_of h hc (by intro z; cases z); have n2 : p ≠ lc := L2.ne_of h hl (by intro z; cases z); walk_at "hp"), (by walk_at "hp"), ⟨_, rfl, (by walk_at "hp")⟩, hk2⟩)
      · rintro σ' Hd ⟨vf, f, xd, yd, rfl, Fd, hd, sd, htd, hld, hfd, wfd⟩
        with_reducible refine Rd.seq (Rd.asg (Rd.call (Rd.cons (Rd.var (by walk_at "vr") (Rd.cons (Rd.lst (Rd.cons (Rd.c (Rd.cons (Rd.c (Rd.cons ?_)))))))))))
        with_reducible refine Rd.c (Rd.cons (Rd.c (Rd.nil (Rd.laid (by walk_at "ll") ?_))))
        intro p16 np16
        have ap_p16_a : p16 ≠ a := ne_none' np16 (by walk_at "hp")
        with_reducible refine Rd.nil ?_
        refine ⟨_, _, _, _, rfl, (by walk_at "hp"), (by walk_at "sc"), (by walk_at "hp"), (by first | with_reducible assumption | walk_at "ll0"), (by first | with_reducible assumption | walk_at "ll"), (by walk_at "ne"), fun v8 o8 H8 m8 F8 r8 so8 => ?_⟩
        with_reducible refine Rd.name ?_
        try dsimp only [Int.reduceToNat, List.set]
        obtain ⟨em, rfl, hem⟩ : ∃ em, v8 = V.str em ∧ em ∈ wEmpty := by
          simp only [List.mem_cons, List.not_mem_nil, or_false] at m8
          rcases m8 with rfl | rfl | rfl | rfl <;> exact ⟨_, rfl, (by decide +kernel)⟩
        with_reducible refine Rd.ret (Rd.tup (Rd.cons (Rd.var (by walk_at "vr") (Rd.cons (Rd.call (Rd.cons (Rd.var (by walk_at "vr") (Rd.cons (Rd.var (by walk_at "vr") (Rd.nil ?_))))))))))
        refine ⟨_, _, _, _, rfl, (by walk_at "hp"), (by walk_at "sc"), (by walk_at "hp"), (by first | with_reducible assumption | walk_at "ll0"), (by first | with_reducible assumption | walk_at "ll"), (by walk_at "ne"), fun v9 o9 H9 m9 F9 r9 so9 => ?_⟩
        with_reducible refine Rd.cons (Rd.var (by walk_at "vr") (Rd.cons (Rd.var (by walk_at "vr") (Rd.cons (Rd.call (Rd.cons (Rd.var (by walk_at "vr") (Rd.cons (Rd.lst (Rd.cons (Rd.c ?_)))))))))))
        with_reducible refine Rd.cons (Rd.c (Rd.cons (Rd.c (Rd.cons (Rd.c (Rd.nil (Rd.laid (by walk_at "ll") ?_)))))))
        intro p18 np18
        have ap_p18_a : p18 ≠ a := ne_none' np18 (by walk_at "hp")
        with_reducible refine Rd.nil ?_
        refine ⟨_, _, _, _, rfl, (by walk_at "hp"), (by walk_at "sc"), (by walk_at "hp"), (by first | with_reducible assumption | walk_at "ll0"), (by first | with_reducible assumption | walk_at "ll"), (by walk_at "ne"), fun v10 o10 H10 m10 F10 r10 so10 => ?_⟩
        with_reducible refine Rd.nil (Rd.laid (by walk_at "ll") ?_)
        intro p17 np17
        have ap_p17_a : p17 ≠ a := ne_none' np17 (by walk_at "hp")
        obtain ⟨s9, rfl, hs9, hm9⟩ := hx _ m9
        obtain ⟨w10, rfl, hw10⟩ : ∃ w10, v10 = V.str w10 ∧ w10 ∈ wWhen := by
          simp only [List.mem_cons, List.not_mem_nil, or_false] at m10
          rcases m10 with rfl | rfl | rfl | rfl <;> exact ⟨_, rfl, (by decide +kernel)⟩
        exact k _ ⟨t, s9, em, f, w10⟩ _ _ (by walk_at "frm") (by walk_at "hp") (by assumption) ⟨_, _, _, rfl, L2.upd_same, htd.keep (fun p xs h => by have n1 : p ≠ a := L2.ne_of h hd (by intro z; cases z); have n2 : p ≠ lc := L2.ne_of h hld (by intro z; cases z); walk_at "hp"), hfd.keep (fun p xs h => by have n1 : p ≠ a := L2.ne_of h hd (by intro z; cases z); have n2 : p ≠ lc := L2.ne_of h hld (by intro z; cases z); walk_at "hp")⟩ ⟨wt, hs9, hem, wfd, hw10, hm9⟩ wu
/-! _law_wrap -/
theorem sc_l_wrap : FnScope ["_law_turning"] ["_law_turning"] (defScope s_l_wrap) := ⟨rfl, rfl, rfl, by decide +kernel, rfl, by decide +kernel, by decide +kernel⟩
abbrev sp_l_wrap (K : PySem.W.Frag) (A : Adr) : Sp := fun vs H Q _ => ∃ (v : V) (t : Wr), vs = [v] ∧ IsTurn H v t ∧ ∀ (v' : V) (H' : Hp), Same H H' → IsWrap A H' v' t → Q v' H'
theorem ok_l_wrap (T : Txt w K mg A) : FnOk P w K mg base CX0 4 A.f_l_wrap A.d_l_wrap ["_law_turning"] (sp_l_wrap K A) := by
  refine T.F_l_wrap.ok sc_l_wrap (fun vs H Q E h => ?_) (fun cdv Ar outer s H vs Q E hr h => ?_)
  · obtain ⟨v, t, rfl, ht, k⟩ := h
    rfl
  · obtain ⟨v, t, rfl, ht, k⟩ := h
    have hu := hu_of hr
    have t_q_PART_NAMES := T.q_PART_NAMES
    have t_q_PART_WORDS_slot := T.q_PART_WORDS_slot
    have t_d_PART_WORDS_slot := T.d_PART_WORDS_slot
    have t_q_PART_WORDS_empty := T.q_PART_WORDS_empty
    have t_d_PART_WORDS_empty := T.d_PART_WORDS_empty
    have t_q_PART_WORDS_when := T.q_PART_WORDS_when
    have t_d_PART_WORDS_when := T.d_PART_WORDS_when
    have t_q_MEASURES := T.q_MEASURES
    have t_q_SIGNS := T.q_SIGNS
    have t_q_PLAIN_FULLS := T.q_PLAIN_FULLS
    have t_i_Form := T.i_Form
    have t_kt_Form_Form := T.kt_Form_Form
    have t_kt_int_Form := T.kt_int_Form
    have t_nf_Form_Form := T.nf_Form_Form
    have t_nf_int_Form := T.nf_int_Form
    have t_k_Form := T.k_Form
    have t_k_Scheme := T.k_Scheme
    rcases t with w | ⟨s, b⟩
    · have ht : v = .int w := ht
      subst ht
      refine ⟨_, (pss_cons (ps_if (pt_val (pe_callB (Rd.isi (K := K) rfl) (by rfl) T.n_isinstance (by decide +kernel) (pa_cons (pv 0) (pa_cons (pe_bltn (v := .ty "int") (u := .type "int") (by rfl) T.n_int (by decide +kernel) rfl) pa_nil)))) (pss_one (ps_ret (pv 0))) pss_nil)
      (pss_one ps_never)), ?_⟩
      try dsimp only [L2.cxOf, L2.Cx.nox, L2.Cx.wish]
      with_reducible refine Rd.seq (Rd.ifS (Rd.tb (Rd.cB (Rd.cons (Rd.var (by walk_at "vr") (Rd.cons (Rd.c (Rd.nil ?_))))))))
      refine ⟨_, _, _, _, _, rfl, (by walk_at "clsv"), (by walk_at "tyx"), (by walk_at "kit"), ?_⟩
      with_reducible refine Rd.bl (Rd.iteT (by first | with_unfolding_all rfl | walk_at "bT") (Rd.ret (Rd.var (by walk_at "vr") ?_)))
      exact k _ _ (Same.refl _) rfl
    · obtain ⟨p, rfl, hp⟩ := ht
      refine ⟨_, (pss_cons (ps_if (pt_val (pe_callB (Rd.isi (K := K) rfl) (by rfl) T.n_isinstance (by decide +kernel) (pa_cons (pv 0) (pa_cons (pe_bltn (v := .ty "int") (u := .type "int") (by rfl) T.n_int (by decide +kernel) rfl) pa_nil)))) (pss_one ps_never) pss_nil)
      (pss_one (ps_ret (pe_make T.K_Form (ok_Formu__initu_ T) (hr.mono (by decide)) (by rfl) T.m_Form T.b_Formu__initu_ .nil pass0 (pa_cons (pe_ix ix_tup (pv 0) pe_int (fun _ _ => rfl)) (pa_cons (pe_ix ix_tup (pv 0) pe_int (fun _ _ => rfl)) pa_nil)))))), ?_⟩
      try dsimp only [L2.cxOf, L2.Cx.nox, L2.Cx.wish]
      with_reducible refine Rd.seq (Rd.ifS (Rd.tb (Rd.cB (Rd.cons (Rd.var (by walk_at "vr") (Rd.cons (Rd.c (Rd.nil ?_))))))))
      refine ⟨_, _, _, _, _, rfl, (by walk_at "clsv"), (by walk_at "tyx"), (by walk_at "kit"), ?_⟩
      with_reducible refine Rd.bl (Rd.iteF (by first | with_unfolding_all rfl | walk_at "bF") (Rd.next (Rd.ret (Rd.make (Rd.cons (Rd.op (Rd.var (by walk_at "vr") (Rd.c (Rd.ixT (by walk_at "hpt") (by walk_at "vr") (Rd.cons (Rd.op ?_)))))))))))
      with_reducible refine Rd.var (by walk_at "vr") (Rd.c (Rd.ixT (by walk_at "hpt") (by walk_at "vr") (Rd.nil ?_)))
      intro x1 dx1 nx1 ndx1 ne1
      refine ⟨_, _, _, _, rfl, L2.upd_same, ?_⟩
      refine ⟨rfl, ?_⟩
      rw [L2.upd_upd]
      exact k _ _ (by walk_at "frm") ⟨_, _, rfl, L2.upd_same⟩
/-! _law_rule -/
theorem sc_l_rule : FnScope ["_law_filled"] ["_law_filled"] (defScope s_l_rule) := ⟨rfl, rfl, rfl, by decide +kernel, rfl, by decide +kernel, by decide +kernel⟩
abbrev sp_l_rule (K : PySem.W.Frag) (A : Adr) : Sp := fun vs H Q _ => ∃ (v : V) (t : Fl), vs = [v] ∧ IsFill H v t ∧ ∀ (v' : V) (H' : Hp), Same H H' → IsFull A H' v' t → Q v' H'
theorem ok_l_rule (T : Txt w K mg A) : FnOk P w K mg base CX0 4 A.f_l_rule A.d_l_rule ["_law_filled"] (sp_l_rule K A) := by
  refine T.F_l_rule.ok sc_l_rule (fun vs H Q E h => ?_) (fun cdv Ar outer s H vs Q E hr h => ?_)
  · obtain ⟨v, t, rfl, ht, k⟩ := h
    rfl
  · obtain ⟨v, t, rfl, ht, k⟩ := h
    have hu := hu_of hr
    have t_q_PART_NAMES := T.q_PART_NAMES
    have t_q_PART_WORDS_slot := T.q_PART_WORDS_slot
    have t_d_PART_WORDS_slot := T.d_PART_WORDS_slot
    have t_q_PART_WORDS_empty := T.q_PART_WORDS_empty
    have t_d_PART_WORDS_empty := T.d_PART_WORDS_empty
    have t_q_PART_WORDS_when := T.q_PART_WORDS_when
    have t_d_PART_WORDS_when := T.d_PART_WORDS_when
    have t_q_MEASURES := T.q_MEASURES
    have t_q_SIGNS := T.q_SIGNS
    have t_q_PLAIN_FULLS := T.q_PLAIN_FULLS
    have t_i_Form := T.i_Form
    have t_kt_Form_Form := T.kt_Form_Form
    have t_kt_int_Form := T.kt_int_Form
    have t_nf_Form_Form := T.nf_Form_Form
    have t_nf_int_Form := T.nf_int_Form
    have t_k_Form := T.k_Form
    have t_k_Scheme := T.k_Scheme
    rcases t with kk | ⟨kk, g, s, b⟩
    · obtain ⟨p, rfl, hp⟩ := ht
      refine ⟨_, (pss_cons (ps_if (pt_cmpR op_eq (pe_callB call_len_seq (by rfl) T.n_len PySem.boot_len (pa_cons (pv 0) pa_nil)) pe_int (nomark _)) (pss_one (ps_ret (pv 0))) pss_nil)
      (pss_one ps_never)), ?_⟩
      try dsimp only [L2.cxOf, L2.Cx.nox, L2.Cx.wish]
      with_reducible refine Rd.seq (Rd.ifS (Rd.test (Rd.op (Rd.cB (Rd.cons (Rd.var (by walk_at "vr") (Rd.nil (⟨_, _, rfl, (by walk_at "hpq"), (Rd.c (Rd.eqS (by walk_at "vr") (Rd.bl ?_)))⟩))))))))
      with_reducible refine Rd.iteT (by first | with_unfolding_all rfl | walk_at "bT") (Rd.ret (Rd.var (by walk_at "vr") ?_))
      exact k _ _ (Same.refl _) ⟨_, rfl, hp⟩
    · obtain ⟨p, q, rfl, hp, hq⟩ := ht
      refine ⟨_, (pss_cons (ps_if (pt_cmpR op_eq (pe_callB call_len_seq (by rfl) T.n_len PySem.boot_len (pa_cons (pv 0) pa_nil)) pe_int (nomark _)) (pss_one ps_never) pss_nil)
      (pss_one (ps_ret (pe_tup (pa_cons (pe_ix ix_tup (pv 0) pe_int (fun _ _ => rfl)) (pa_cons (pe_ix ix_tup (pv 0) pe_int (fun _ _ => rfl)) (pa_cons (pe_make T.K_Form (ok_Formu__initu_ T) (hr.mono (by decide)) (by rfl) T.m_Form T.b_Formu__initu_ .nil pass0 (pa_cons (pe_ix ix_tup (pe_ix ix_tup (pv 0) pe_int (fun _ _ => rfl)) pe_int (fun _ _ => rfl)) (pa_cons (pe_ix ix_tup (pe_ix ix_tup (pv 0) pe_int (fun _ _ => rfl)) pe_int (fun _ _ => rfl)) pa_nil))) pa_nil))))))), ?_⟩
      try dsimp only [L2.cxOf, L2.Cx.nox, L2.Cx.wish]
      with_reducible refine Rd.seq (Rd.ifS (Rd.test (Rd.op (Rd.cB (Rd.cons (Rd.var (by walk_at "vr") (Rd.nil (⟨_, _, rfl, (by walk_at "hpq"), (Rd.c (Rd.eqS (by walk_at "vr") (Rd.bl ?_)))⟩))))))))
      with_reducible refine Rd.iteF (by first | with_unfolding_all rfl | walk_at "bF") (Rd.next (Rd.ret (Rd.tup (Rd.cons (Rd.op (Rd.var (by walk_at "vr") (Rd.c (Rd.ixT (by walk_at "hpt") (by walk_at "vr") (Rd.cons (Rd.op (Rd.var (by walk_at "vr") ?_)))))))))))
      with_reducible refine Rd.c (Rd.ixT (by walk_at "hpt") (by walk_at "vr") (Rd.cons (Rd.make (Rd.cons (Rd.op (Rd.op (Rd.var (by walk_at "vr") (Rd.c (Rd.ixT (by walk_at "hpt") (by walk_at "vr") (Rd.c (Rd.ixT (by walk_at "hpt") (by walk_at "vr") ?_)))))))))))
      with_reducible refine Rd.cons (Rd.op (Rd.op (Rd.var (by walk_at "vr") (Rd.c (Rd.ixT (by walk_at "hpt") (by walk_at "vr") (Rd.c (Rd.ixT (by walk_at "hpt") (by walk_at "vr") (Rd.nil ?_))))))))
      intro x1 dx1 nx1 ndx1 ne1
      refine ⟨_, _, _, _, rfl, L2.upd_same, ?_⟩
      refine ⟨rfl, ?_⟩
      rw [L2.upd_upd]
      with_reducible refine Rd.nil (Rd.laid (by walk_at "ll") ?_)
      intro p0 np0
      exact k _ _ (by walk_at "frm") ⟨_, _, _, rfl, L2.upd_same, (by walk_at "hp")⟩
/-! _law_scheme -/
theorem sc_l_scheme : FnScope ["_law_parts_here", "_law_turning", "_law_spot", "_law_bare", "_law_filled", "_law_manner"] ["_law_parts_here"] (defScope s_l_scheme) := ⟨rfl, rfl, rfl, by decide +kernel, rfl, by decide +kernel, by decide +kernel⟩
abbrev sp_l_scheme (K : PySem.W.Frag) (A : Adr) : Sp := fun vs H Q _ => ∃ (v : V) (t : Pt), vs = [v] ∧ IsParts H v t ∧ Wf t ∧ ∀ (p : Addr) (H' : Hp), Same H H' → H p = none → IsScheme A H' p t → Q (.ref p) H'
theorem ok_l_scheme (T : Txt w K mg A) : FnOk P w K mg base CX0 8 A.f_l_scheme A.d_l_scheme ["_law_parts_here"] (sp_l_scheme K A) := by
  refine T.F_l_scheme.ok sc_l_scheme (fun vs H Q E h => ?_) (fun cdv Ar outer s H vs Q E hr h => ?_)
  · obtain ⟨v, t, rfl, ⟨p, vt, vf, rfl, hp, ht, hf⟩, wf, k⟩ := h
    rfl
  · obtain ⟨v, t, rfl, ⟨p, vt, vf, rfl, hp, ht, hf⟩, wf, k⟩ := h
    have hu := hu_of hr
    have t_q_PART_NAMES := T.q_PART_NAMES
    have t_q_PART_WORDS_slot := T.q_PART_WORDS_slot
    have t_d_PART_WORDS_slot := T.d_PART_WORDS_slot
    have t_q_PART_WORDS_empty := T.q_PART_WORDS_empty
    have t_d_PART_WORDS_empty := T.d_PART_WORDS_empty
    have t_q_PART_WORDS_when := T.q_PART_WORDS_when
    have t_d_PART_WORDS_when := T.d_PART_WORDS_when
    have t_q_MEASURES := T.q_MEASURES
    have t_q_SIGNS := T.q_SIGNS
    have t_q_PLAIN_FULLS := T.q_PLAIN_FULLS
    have t_i_Form := T.i_Form
    have t_kt_Form_Form := T.kt_Form_Form
    have t_kt_int_Form := T.kt_int_Form
    have t_nf_Form_Form := T.nf_Form_Form
    have t_nf_int_Form := T.nf_int_Form
    have t_k_Form := T.k_Form
    have t_k_Scheme := T.k_Scheme
    refine ⟨_, (pss_cons (ps_asg (pv 0) (pg_tup (by rfl) (pgs_cons (pg_name (i := 1) sc_l_scheme.nd rfl (Or.inl rfl)) (pgs_cons (pg_name (i := 2) sc_l_scheme.nd rfl (Or.inl rfl)) (pgs_cons (pg_name (i := 3) sc_l_scheme.nd rfl (Or.inl rfl)) (pgs_cons (pg_name (i := 4) sc_l_scheme.nd rfl (Or.inl rfl)) (pgs_cons (pg_name (i := 5) sc_l_scheme.nd rfl (Or.inl rfl)) pgs_nil)))))))
      (pss_one (ps_ret (pe_makeK0 T.K_Scheme (ok_Schemeu__initu_ T) (hr.mono (by decide)) (by rfl) T.m_Scheme T.kb_Schemeu__initu_.choose_spec pass0 (pk_cons (pe_call (ok_l_wrap T) (hr.mono (by decide)) (by rfl) T.m_l_wrap T.F_l_wrap.kp T.b_l_wrap .nil pass0 (pa_cons (pv 1) pa_nil)) (pk_cons (pv 2) (pk_cons (pv 3) (pk_cons (pe_call (ok_l_rule T) (hr.mono (by decide)) (by rfl) T.m_l_rule T.F_l_rule.kp T.b_l_rule .nil pass0 (pa_cons (pv 4) pa_nil)) (pk_cons (pv 5) pk_nil))))))))), ?_⟩
    try dsimp only [L2.cxOf, L2.Cx.nox, L2.Cx.wish]
    with_reducible refine Rd.seq (Rd.asg (Rd.var (by walk_at "vr") ?_))
    refine Rd.gtup (by walk_at "hpt") rfl ?_
    with_reducible refine Rd.gcons (Rd.name (Rd.gcons (Rd.name (Rd.gcons (Rd.name (Rd.gcons (Rd.name (Rd.gcons (Rd.name (Rd.gnil (Rd.ret ?_)))))))))))
    with_reducible refine Rd.mkK (Rd.cons (Rd.call (Rd.cons (Rd.var (by walk_at "vr") (Rd.nil ?_)))))
    refine ⟨_, _, rfl, (by assumption), fun v1 H1 S1 i1 => ?_⟩
    with_reducible refine Rd.cons (Rd.var (by walk_at "vr") (Rd.cons (Rd.var (by walk_at "vr") (Rd.cons (Rd.call (Rd.cons (Rd.var (by walk_at "vr") (Rd.nil ?_))))))))
    have hf1 := hf.same S1
    refine ⟨_, _, rfl, hf1, fun v2 H2 S2 i2 => ?_⟩
    with_reducible refine Rd.cons (Rd.var (by walk_at "vr") (Rd.nil ?_))
    refine ⟨rfl, rfl, ?_⟩
    intro x3 dx3 nx3 ndx3 ne3
    refine ⟨_, _, _, _, t, rfl, L2.upd_same, (i1.same (by walk_at "frm")), (i2.same (by walk_at "frm")), wf, fun d3 H3 F3 nd3 a3 b3 => ⟨rfl, ?_⟩⟩
    have ex := i1.same (H' := H3) (by walk_at "frm")
    have ef := i2.same (H' := H3) (by walk_at "frm")
    exact k _ _ (by walk_at "frm") (by walk_at "nn") ⟨_, _, _, _, a3, b3, ex, ef⟩
/-! _law_modulus -/
theorem sc_l_modulus : FnScope ["_law_turning", "_law_n", "_law_found", "_law_turn"] ["_law_turning", "_law_n"] (defScope s_l_modulus) := ⟨rfl, rfl, rfl, by decide +kernel, rfl, by decide +kernel, by decide +kernel⟩
abbrev sp_l_modulus (K : PySem.W.Frag) (A : Adr) : Sp := fun vs H Q _ => ∃ (v : V) (t : Wr) (n : Int), vs = [v, .int n] ∧ IsTurn H v t ∧ WfW t ∧ 1 ≤ n ∧ n ≤ 1000000000000000000000000000000 ∧ Q (.int (modV t n)) H
theorem ok_l_modulus (T : Txt w K mg A) : FnOk P w K mg base CX0 1 A.f_l_modulus A.d_l_modulus ["_law_turning", "_law_n"] (sp_l_modulus K A) := by
  refine T.F_l_modulus.ok sc_l_modulus (fun vs H Q E h => ?_) (fun cdv Ar outer s H vs Q E hr h => ?_)
  · obtain ⟨v, t, n, rfl, ht, hf, n1, n2, k⟩ := h
    rfl
  · obtain ⟨v, t, n, rfl, ht, hf, n1, n2, k⟩ := h
    have hu := hu_of hr
    have t_q_PART_NAMES := T.q_PART_NAMES
    have t_q_PART_WORDS_slot := T.q_PART_WORDS_slot
    have t_d_PART_WORDS_slot := T.d_PART_WORDS_slot
    have t_q_PART_WORDS_empty := T.q_PART_WORDS_empty
    have t_d_PART_WORDS_empty := T.d_PART_WORDS_empty
    have t_q_PART_WORDS_when := T.q_PART_WORDS_when
    have t_d_PART_WORDS_when := T.d_PART_WORDS_when
    have t_q_MEASURES := T.q_MEASURES
    have t_q_SIGNS := T.q_SIGNS
    have t_q_PLAIN_FULLS := T.q_PLAIN_FULLS
    have t_i_Form := T.i_Form
    have t_kt_Form_Form := T.kt_Form_Form
    have t_kt_int_Form := T.kt_int_Form
    have t_nf_Form_Form := T.nf_Form_Form
    have t_nf_int_Form := T.nf_int_Form
    have t_k_Form := T.k_Form
    have t_k_Scheme := T.k_Scheme
    rcases t with w | ⟨s, b⟩
    · have ht : v = .int w := ht
      subst ht
      have hf : 1 ≤ w ∧ w ≤ 100 := hf
      refine ⟨_, (pss_cons (ps_if (pt_val (pe_callB (Rd.isi (K := K) rfl) (by rfl) T.n_isinstance (by decide +kernel) (pa_cons (pv 0) (pa_cons (pe_bltn (v := .ty "tuple") (u := .type "tuple") (by rfl) T.n_tuple (by decide +kernel) rfl) pa_nil)))) (pss_one ps_never) pss_nil)
      (pss_cons (ps_set (i := 2) sc_l_modulus.nd rfl (Or.inl rfl) pe_int)
      (pss_cons (ps_for PassesOwn.never rfl (pi_range1 (by rfl) T.n_range (pa_cons (pv 0) pa_nil)) (pg_name (i := 3) sc_l_modulus.nd rfl (Or.inl rfl)) (pss_one (ps_set (i := 2) sc_l_modulus.nd rfl (Or.inl rfl) (pe_op op_mulW (pv 2) pe_int))))
      (pss_one (ps_ret (pv 2)))))), ?_⟩
      try dsimp only [L2.cxOf, L2.Cx.nox, L2.Cx.wish]
      with_reducible refine Rd.seq (Rd.ifS (Rd.tb (Rd.cB (Rd.cons (Rd.var (by walk_at "vr") (Rd.cons (Rd.c (Rd.nil ?_))))))))
      refine ⟨_, _, _, _, _, rfl, (by walk_at "clsv"), (by walk_at "tyx"), (by walk_at "kit"), ?_⟩
      with_reducible refine Rd.bl (Rd.iteF (by first | with_unfolding_all rfl | walk_at "bF") (Rd.next (Rd.seq (Rd.asg (Rd.c (Rd.name ?_))))))
      try dsimp only [Int.reduceToNat, List.set]
      with_reducible refine Rd.seq (Rd.fr (Rd.rng1 (Rd.cons (Rd.var (by walk_at "vr") (Rd.nil (⟨_, rfl, (by walk_at "sc"), (by walk_at "sc"), ?_⟩))))))
      refine for_range (lo := 0) (fun (i : Nat) (σ : L2.St) (H' : Hp) => ∃ vt : Option V, σ = [some (.int w), some (.int n), some (.int (2 ^ i)), vt] ∧ H' = H) ⟨_, rfl, rfl⟩ (fun i σ H0 hi ⟨vt, es, eh⟩ => ?_) (fun σ H0 ⟨vt, es, eh⟩ => ?_)
      · subst es eh
        have pw := pow_le (i := i) (by omega)
        have pp := pow_pos2 i
        with_reducible refine Rd.name (Rd.asg (Rd.op (Rd.var (by walk_at "vr") (Rd.c (Rd.iC (by walk_at "scm") (Rd.name ?_))))))
        try dsimp only [Int.reduceToNat, List.set]
        exact ⟨_, by rw [Int.pow_succ], rfl⟩
      · subst es eh
        have k : Q (.int (1 * 2 ^ w.toNat)) H0 := k
        rw [Int.one_mul] at k
        with_reducible refine Rd.ret (Rd.var (by walk_at "vr") ?_)
        exact k
    · obtain ⟨p, rfl, hp⟩ := ht
      have hf : 0 ≤ s ∧ s ≤ 4 ∧ -20 ≤ b ∧ b ≤ 20 := hf
      refine ⟨_, (pss_cons (ps_if (pt_val (pe_callB (Rd.isi (K := K) rfl) (by rfl) T.n_isinstance (by decide +kernel) (pa_cons (pv 0) (pa_cons (pe_bltn (v := .ty "tuple") (u := .type "tuple") (by rfl) T.n_tuple (by decide +kernel) rfl) pa_nil)))) (pss_one (ps_ret (pe_op op_add (pe_op op_mulW (pe_ix ix_tup (pv 0) pe_int (fun _ _ => rfl)) (pv 1)) (pe_ix ix_tup (pv 0) pe_int (fun _ _ => rfl))))) pss_nil)
      (pss_cons ps_never (pss_cons ps_never (pss_one ps_never)))), ?_⟩
      try dsimp only [L2.cxOf, L2.Cx.nox, L2.Cx.wish]
      with_reducible refine Rd.seq (Rd.ifS (Rd.tb (Rd.cB (Rd.cons (Rd.var (by walk_at "vr") (Rd.cons (Rd.c (Rd.nil ?_))))))))
      refine ⟨_, _, _, _, _, rfl, (by walk_at "clsv"), (by walk_at "tyx"), (by walk_at "kit"), ?_⟩
      with_reducible refine Rd.bl (Rd.iteT (by first | with_unfolding_all rfl | walk_at "bT") (Rd.ret (Rd.op (Rd.op (Rd.op (Rd.var (by walk_at "vr") (Rd.c (Rd.ixT (by walk_at "hpt") (by walk_at "vr") (Rd.var (by walk_at "vr") (Rd.iC (by walk_at "scm") (Rd.op ?_)))))))))))
      with_reducible refine Rd.var (by walk_at "vr") (Rd.c (Rd.ixT (by walk_at "hpt") (by walk_at "vr") (Rd.i0 ?_)))
      exact k
/-! _law_slot -/
theorem sc_l_slot : FnScope ["_law_rule_here", "_law_n", "_law_c"] ["_law_rule_here", "_law_n", "_law_c"] (defScope s_l_slot) := ⟨rfl, rfl, rfl, by decide +kernel, rfl, by decide +kernel, by decide +kernel⟩
abbrev sp_l_slot (K : PySem.W.Frag) (A : Adr) : Sp := fun vs H Q _ => ∃ (k : Str) (n c : Int), vs = [.str k, .int n, .int c] ∧ k ∈ wSlot ∧ 1 ≤ n ∧ n ≤ 1000000000000000000000000000000 ∧ Q (slotV k n c) H
theorem ok_l_slot (T : Txt w K mg A) : FnOk P w K mg base CX0 1 A.f_l_slot A.d_l_slot ["_law_rule_here", "_law_n", "_law_c"] (sp_l_slot K A) := by
  refine T.F_l_slot.ok sc_l_slot (fun vs H Q E h => ?_) (fun cdv Ar outer s H vs Q E hr h => ?_)
  · obtain ⟨kd, n, c, rfl, hk, n1, n2, k⟩ := h
    rfl
  · obtain ⟨kd, n, c, rfl, hk, n1, n2, k⟩ := h
    have hu := hu_of hr
    have t_q_PART_NAMES := T.q_PART_NAMES
    have t_q_PART_WORDS_slot := T.q_PART_WORDS_slot
    have t_d_PART_WORDS_slot := T.d_PART_WORDS_slot
    have t_q_PART_WORDS_empty := T.q_PART_WORDS_empty
    have t_d_PART_WORDS_empty := T.d_PART_WORDS_empty
    have t_q_PART_WORDS_when := T.q_PART_WORDS_when
    have t_d_PART_WORDS_when := T.d_PART_WORDS_when
    have t_q_MEASURES := T.q_MEASURES
    have t_q_SIGNS := T.q_SIGNS
    have t_q_PLAIN_FULLS := T.q_PLAIN_FULLS
    have t_i_Form := T.i_Form
    have t_kt_Form_Form := T.kt_Form_Form
    have t_kt_int_Form := T.kt_int_Form
    have t_nf_Form_Form := T.nf_Form_Form
    have t_nf_int_Form := T.nf_int_Form
    have t_k_Form := T.k_Form
    have t_k_Scheme := T.k_Scheme
    rcases slot3 hk with rfl | rfl | rfl
    rotate_left 2
    rcases (by omega : c < n ∨ (¬ c < n ∧ c < 2 * n) ∨ (¬ c < n ∧ ¬ c < 2 * n)) with h1 | ⟨h1, h2⟩ | ⟨h1, h2⟩
    rotate_left 3
    · skip
      refine ⟨_, (pss_cons (ps_if (pt_cmpR op_eq (pv 0) pe_str (nomark _)) (pss_one (ps_ret (pe_op op_mod (pe_callTy call_int1 (by rfl) T.n_int (by decide +kernel) (pa_cons (pv 2) pa_nil)) (pv 1)))) pss_nil)
      (pss_cons ps_never (pss_cons ps_never (pss_cons ps_never (pss_one ps_never))))), ?_⟩
      try dsimp only [L2.cxOf, L2.Cx.nox, L2.Cx.wish]
      with_reducible refine Rd.seq (Rd.ifS (Rd.test (Rd.op (Rd.var (by walk_at "vr") (Rd.c (Rd.eqS (by walk_at "vr") (Rd.bl (Rd.iteT (by first | with_unfolding_all rfl | walk_at "bT") (Rd.ret (Rd.op (Rd.cB ?_)))))))))))
      with_reducible refine Rd.cons (Rd.var (by walk_at "vr") (Rd.nil ((.inl ⟨_, rfl, (Rd.var (by walk_at "vr") (Rd.iC (by walk_at "sc") ?_))⟩))))
      rw [slotV_rest] at k
      exact k
    · skip
      refine ⟨_, (pss_cons (ps_if (pt_cmpR op_eq (pv 0) pe_str (nomark _)) (pss_one ps_never) pss_nil)
      (pss_cons (ps_if (pt_cmpR op_eq (pv 0) pe_str (nomark _)) (pss_one (ps_ret (pe_op op_and (pv 2) (pe_op op_sub (pv 1) pe_int)))) pss_nil)
      (pss_cons ps_never (pss_cons ps_never (pss_one ps_never))))), ?_⟩
      try dsimp only [L2.cxOf, L2.Cx.nox, L2.Cx.wish]
      with_reducible refine Rd.seq (Rd.ifS (Rd.test (Rd.op (Rd.var (by walk_at "vr") (Rd.c (Rd.eqS (by walk_at "vr") (Rd.bl (Rd.iteF (by first | with_unfolding_all rfl | walk_at "bF") (Rd.next (Rd.seq (Rd.ifS ?_)))))))))))
      with_reducible refine Rd.test (Rd.op (Rd.var (by walk_at "vr") (Rd.c (Rd.eqS (by walk_at "vr") (Rd.bl (Rd.iteT (by first | with_unfolding_all rfl | walk_at "bT") (Rd.ret (Rd.op (Rd.var (by walk_at "vr") (Rd.op (Rd.var (by walk_at "vr") ?_)))))))))))
      with_reducible refine Rd.c (Rd.i0 (Rd.i0 ?_))
      rw [slotV_mask] at k
      exact k
    · skip
      refine ⟨_, (pss_cons (ps_if (pt_cmpR op_eq (pv 0) pe_str (nomark _)) (pss_one ps_never) pss_nil)
      (pss_cons (ps_if (pt_cmpR op_eq (pv 0) pe_str (nomark _)) (pss_one ps_never) pss_nil)
      (pss_cons (ps_if (pt_cmpR op_lt (pv 2) (pv 1) (nomark _)) (pss_one (ps_ret (pv 2))) pss_nil)
      (pss_cons ps_never (pss_one ps_never))))), ?_⟩
      try dsimp only [L2.cxOf, L2.Cx.nox, L2.Cx.wish]
      with_reducible refine Rd.seq (Rd.ifS (Rd.test (Rd.op (Rd.var (by walk_at "vr") (Rd.c (Rd.eqS (by walk_at "vr") (Rd.bl (Rd.iteF (by first | with_unfolding_all rfl | walk_at "bF") (Rd.next (Rd.seq (Rd.ifS ?_)))))))))))
      with_reducible refine Rd.test (Rd.op (Rd.var (by walk_at "vr") (Rd.c (Rd.eqS (by walk_at "vr") (Rd.bl (Rd.iteF (by first | with_unfolding_all rfl | walk_at "bF") (Rd.next (Rd.seq (Rd.ifS (Rd.test (Rd.op ?_)))))))))))
      with_reducible refine Rd.var (by walk_at "vr") (Rd.var (by walk_at "vr") (Rd.i0 (Rd.bl (Rd.iteT (by walk_at "bT") (Rd.ret (Rd.var (by walk_at "vr") ?_))))))
      rw [slotV_off, if_pos h1] at k
      exact k
    · skip
      refine ⟨_, (pss_cons (ps_if (pt_cmpR op_eq (pv 0) pe_str (nomark _)) (pss_one ps_never) pss_nil)
      (pss_cons (ps_if (pt_cmpR op_eq (pv 0) pe_str (nomark _)) (pss_one ps_never) pss_nil)
      (pss_cons (ps_if (pt_cmpR op_lt (pv 2) (pv 1) (nomark _)) (pss_one ps_never) pss_nil)
      (pss_cons (ps_if (pt_cmpR op_lt (pv 2) (pe_op op_mulW pe_int (pv 1)) (nomark _)) (pss_one (ps_ret (pe_op op_sub (pv 2) (pv 1)))) pss_nil)
      (pss_one ps_never))))), ?_⟩
      try dsimp only [L2.cxOf, L2.Cx.nox, L2.Cx.wish]
      with_reducible refine Rd.seq (Rd.ifS (Rd.test (Rd.op (Rd.var (by walk_at "vr") (Rd.c (Rd.eqS (by walk_at "vr") (Rd.bl (Rd.iteF (by first | with_unfolding_all rfl | walk_at "bF") (Rd.next (Rd.seq (Rd.ifS ?_)))))))))))
      with_reducible refine Rd.test (Rd.op (Rd.var (by walk_at "vr") (Rd.c (Rd.eqS (by walk_at "vr") (Rd.bl (Rd.iteF (by first | with_unfolding_all rfl | walk_at "bF") (Rd.next (Rd.seq (Rd.ifS (Rd.test (Rd.op ?_)))))))))))
      with_reducible refine Rd.var (by walk_at "vr") (Rd.var (by walk_at "vr") (Rd.i0 (Rd.bl (Rd.iteF (by walk_at "bF") (Rd.next (Rd.seq (Rd.ifS (Rd.test (Rd.op (Rd.var (by walk_at "vr") (Rd.op ?_)))))))))))
      with_reducible refine Rd.c (Rd.var (by walk_at "vr") (Rd.iC (by walk_at "scm") (Rd.i0 (Rd.bl (Rd.iteT (by walk_at "bT") (Rd.ret (Rd.op (Rd.var (by walk_at "vr") (Rd.var (by walk_at "vr") (Rd.i0 ?_))))))))))
      rw [slotV_off, if_neg h1, if_pos h2] at k
      exact k
    · skip
      refine ⟨_, (pss_cons (ps_if (pt_cmpR op_eq (pv 0) pe_str (nomark _)) (pss_one ps_never) pss_nil)
      (pss_cons (ps_if (pt_cmpR op_eq (pv 0) pe_str (nomark _)) (pss_one ps_never) pss_nil)
      (pss_cons (ps_if (pt_cmpR op_lt (pv 2) (pv 1) (nomark _)) (pss_one ps_never) pss_nil)
      (pss_cons (ps_if (pt_cmpR op_lt (pv 2) (pe_op op_mulW pe_int (pv 1)) (nomark _)) (pss_one ps_never) pss_nil)
      (pss_one (ps_ret pe_non)))))), ?_⟩
      try dsimp only [L2.cxOf, L2.Cx.nox, L2.Cx.wish]
      with_reducible refine Rd.seq (Rd.ifS (Rd.test (Rd.op (Rd.var (by walk_at "vr") (Rd.c (Rd.eqS (by walk_at "vr") (Rd.bl (Rd.iteF (by first | with_unfolding_all rfl | walk_at "bF") (Rd.next (Rd.seq (Rd.ifS ?_)))))))))))
      with_reducible refine Rd.test (Rd.op (Rd.var (by walk_at "vr") (Rd.c (Rd.eqS (by walk_at "vr") (Rd.bl (Rd.iteF (by first | with_unfolding_all rfl | walk_at "bF") (Rd.next (Rd.seq (Rd.ifS (Rd.test (Rd.op ?_)))))))))))
      with_reducible refine Rd.var (by walk_at "vr") (Rd.var (by walk_at "vr") (Rd.i0 (Rd.bl (Rd.iteF (by walk_at "bF") (Rd.next (Rd.seq (Rd.ifS (Rd.test (Rd.op (Rd.var (by walk_at "vr") (Rd.op ?_)))))))))))
      with_reducible refine Rd.c (Rd.var (by walk_at "vr") (Rd.iC (by walk_at "scm") (Rd.i0 (Rd.bl (Rd.iteF (by walk_at "bF") (Rd.next (Rd.ret (Rd.c ?_))))))))
      rw [slotV_off, if_neg h1, if_neg h2] at k
      exact k
/-! _law_power -/
theorem sc_l_power : FnScope ["_law_many", "_law_found", "_law_turn"] ["_law_many"] (defScope s_l_power) := ⟨rfl, rfl, rfl, by decide +kernel, rfl, by decide +kernel, by decide +kernel⟩
abbrev sp_l_power (K : PySem.W.Frag) (A : Adr) : Sp := fun vs H Q _ => ∃ m : Int, vs = [.int m] ∧ 0 ≤ m ∧ m ≤ 100 ∧ Q (.int (2 ^ m.toNat)) H
theorem ok_l_power (T : Txt w K mg A) : FnOk P w K mg base CX0 1 A.f_l_power A.d_l_power ["_law_many"] (sp_l_power K A) := by
  refine T.F_l_power.ok sc_l_power (fun vs H Q E h => ?_) (fun cdv Ar outer s H vs Q E hr h => ?_)
  · obtain ⟨m, rfl, m1, m2, k⟩ := h
    rfl
  · obtain ⟨m, rfl, m1, m2, k⟩ := h
    have hu := hu_of hr
    have t_q_PART_NAMES := T.q_PART_NAMES
    have t_q_PART_WORDS_slot := T.q_PART_WORDS_slot
    have t_d_PART_WORDS_slot := T.d_PART_WORDS_slot
    have t_q_PART_WORDS_empty := T.q_PART_WORDS_empty
    have t_d_PART_WORDS_empty := T.d_PART_WORDS_empty
    have t_q_PART_WORDS_when := T.q_PART_WORDS_when
    have t_d_PART_WORDS_when := T.d_PART_WORDS_when
    have t_q_MEASURES := T.q_MEASURES
    have t_q_SIGNS := T.q_SIGNS
    have t_q_PLAIN_FULLS := T.q_PLAIN_FULLS
    have t_i_Form := T.i_Form
    have t_kt_Form_Form := T.kt_Form_Form
    have t_kt_int_Form := T.kt_int_Form
    have t_nf_Form_Form := T.nf_Form_Form
    have t_nf_int_Form := T.nf_int_Form
    have t_k_Form := T.k_Form
    have t_k_Scheme := T.k_Scheme
    refine ⟨_, (pss_cons (ps_set (i := 1) sc_l_power.nd rfl (Or.inl rfl) pe_int)
      (pss_cons (ps_for PassesOwn.never rfl (pi_range1 (by rfl) T.n_range (pa_cons (pv 0) pa_nil)) (pg_name (i := 2) sc_l_power.nd rfl (Or.inl rfl)) (pss_one (ps_set (i := 1) sc_l_power.nd rfl (Or.inl rfl) (pe_op op_mulW (pv 1) pe_int))))
      (pss_one (ps_ret (pv 1))))), ?_⟩
    try dsimp only [L2.cxOf, L2.Cx.nox, L2.Cx.wish]
    with_reducible refine Rd.seq (Rd.asg (Rd.c (Rd.name ?_)))
    try dsimp only [Int.reduceToNat, List.set]
    with_reducible refine Rd.seq (Rd.fr (Rd.rng1 (Rd.cons (Rd.var (by walk_at "vr") (Rd.nil (⟨_, rfl, (by walk_at "sc"), (by walk_at "sc"), ?_⟩))))))
    refine for_range (lo := 0) (fun (i : Nat) (σ : L2.St) (H' : Hp) => ∃ vt : Option V, σ = [some (.int m), some (.int (2 ^ i)), vt] ∧ H' = H) ⟨_, rfl, rfl⟩ (fun i σ H0 hi ⟨vt, es, eh⟩ => ?_) (fun σ H0 ⟨vt, es, eh⟩ => ?_)
    · subst es eh
      have pw := pow_le (i := i) (by omega)
      have pp := pow_pos2 i
      with_reducible refine Rd.name (Rd.asg (Rd.op (Rd.var (by walk_at "vr") (Rd.c (Rd.iC (by walk_at "scm") (Rd.name ?_))))))
      try dsimp only [Int.reduceToNat, List.set]
      exact ⟨_, by rw [Int.pow_succ], rfl⟩
    · subst es eh
      with_reducible refine Rd.ret (Rd.var (by walk_at "vr") ?_)
      exact k
/-! _law_size -/
theorem sc_l_size : FnScope ["_law_source_here", "_law_way"] ["_law_source_here"] (defScope s_l_size) := ⟨rfl, rfl, rfl, by decide +kernel, rfl, by decide +kernel, by decide +kernel⟩
abbrev sp_l_size (K : PySem.W.Frag) (A : Adr) : Sp := fun vs H Q _ => ∃ (a : Addr) (o : HO), vs = [.ref a] ∧ H a = some o ∧ SrcO o ∧ ∀ (n : Int) (o' : HO) (H' : Hp), 1 ≤ n → n ≤ 1000000000000000000000000000000 → Frm a H H' → H' a = some o' → SrcO o' → Q (.int n) H'
theorem ok_l_size (T : Txt w K mg A) : FnOk P w K mg base CX0 2 A.f_l_size A.d_l_size ["_law_source_here"] (sp_l_size K A) := by
  refine T.F_l_size.ok sc_l_size (fun vs H Q E h => ?_) (fun cdv Ar outer s H vs Q E hr h => ?_)
  · obtain ⟨a, o, rfl, ha, ho, k⟩ := h
    rfl
  · obtain ⟨a, o, rfl, ha, ho, k⟩ := h
    have hu := hu_of hr
    have t_q_PART_NAMES := T.q_PART_NAMES
    have t_q_PART_WORDS_slot := T.q_PART_WORDS_slot
    have t_d_PART_WORDS_slot := T.d_PART_WORDS_slot
    have t_q_PART_WORDS_empty := T.q_PART_WORDS_empty
    have t_d_PART_WORDS_empty := T.d_PART_WORDS_empty
    have t_q_PART_WORDS_when := T.q_PART_WORDS_when
    have t_d_PART_WORDS_when := T.d_PART_WORDS_when
    have t_q_MEASURES := T.q_MEASURES
    have t_q_SIGNS := T.q_SIGNS
    have t_q_PLAIN_FULLS := T.q_PLAIN_FULLS
    have t_i_Form := T.i_Form
    have t_kt_Form_Form := T.kt_Form_Form
    have t_kt_int_Form := T.kt_int_Form
    have t_nf_Form_Form := T.nf_Form_Form
    have t_nf_int_Form := T.nf_int_Form
    have t_k_Form := T.k_Form
    have t_k_Scheme := T.k_Scheme
    have e30 : (10 : Int) ^ Int.toNat 30 = 1000000000000000000000000000000 := by decide +kernel
    refine ⟨_, (pss_cons (ps_set (i := 1) sc_l_size.nd rfl (Or.inl rfl) (pe_call (ok_l_draw T) (hr.mono (by decide)) (by rfl) T.m_l_draw T.F_l_draw.kp T.b_l_draw .nil pass0 (pa_cons (pv 0) (pa_cons pe_int pa_nil))))
      (pss_cons (ps_if (pt_cmpR op_lt (pv 1) pe_int (nomark _)) (pss_one (ps_ret (pe_op op_add pe_int (pe_call (ok_l_draw T) (hr.mono (by decide)) (by rfl) T.m_l_draw T.F_l_draw.kp T.b_l_draw .nil pass0 (pa_cons (pv 0) (pa_cons pe_int pa_nil)))))) pss_nil)
      (pss_cons (ps_if (pt_cmpR op_eq (pv 1) pe_int (nomark _)) (pss_one (ps_ret (pe_op op_add (pe_call (ok_l_power T) (hr.mono (by decide)) (by rfl) T.m_l_power T.F_l_power.kp T.b_l_power .nil pass0 (pa_cons (pe_call (ok_l_draw T) (hr.mono (by decide)) (by rfl) T.m_l_draw T.F_l_draw.kp T.b_l_draw .nil pass0 (pa_cons (pv 0) (pa_cons pe_int pa_nil))) pa_nil)) (pe_call (ok_l_draw T) (hr.mono (by decide)) (by rfl) T.m_l_draw T.F_l_draw.kp T.b_l_draw .nil pass0 (pa_cons (pv 0) (pa_cons pe_int pa_nil)))))) pss_nil)
      (pss_one (ps_ret (pe_op op_add pe_int (pe_call (ok_l_draw T) (hr.mono (by decide)) (by rfl) T.m_l_draw T.F_l_draw.kp T.b_l_draw .nil pass0 (pa_cons (pv 0) (pa_cons (pe_op op_pow pe_int pe_int) pa_nil))))))))), ?_⟩
    try dsimp only [L2.cxOf, L2.Cx.nox, L2.Cx.wish]
    with_reducible refine Rd.seq (Rd.asg (Rd.call (Rd.cons (Rd.var (by walk_at "vr") (Rd.cons (Rd.c (Rd.nil ?_)))))))
    refine ⟨_, _, _, rfl, (by walk_at "hp"), (by walk_at "sc"), (by walk_at "sc"), (by walk_at "sc"), fun d1 o1 d1a d1b s1 => ?_⟩
    with_reducible refine Rd.name ?_
    try dsimp only [Int.reduceToNat, List.set]
    with_reducible refine Rd.seq (Rd.ifS (Rd.test (Rd.op (Rd.var (by walk_at "vr") (Rd.c (Rd.i0 (Rd.bl ?_)))))))
    refine Rd.ite (fun h0 => ?_) (fun h0 => ?_)
    · try simp only [decide_eq_true_eq, Bool.not_eq_true', decide_eq_false_iff_not, Bool.not_eq_true, Bool.not_eq_eq_eq_not, Bool.not_true, Bool.not_false] at h0
      with_reducible refine Rd.ret (Rd.op (Rd.c (Rd.call (Rd.cons (Rd.var (by walk_at "vr") (Rd.cons (Rd.c (Rd.nil ?_))))))))
      refine ⟨_, _, _, rfl, (by walk_at "hp"), (by walk_at "sc"), (by walk_at "sc"), (by walk_at "sc"), fun d2 o2 d2a d2b s2 => ?_⟩
      with_reducible refine Rd.i0 ?_
      exact k _ _ _ (by omega) (by omega) (by walk_at "frm") (by walk_at "hp") (by assumption)
    · try simp only [decide_eq_true_eq, Bool.not_eq_true', decide_eq_false_iff_not, Bool.not_eq_true, Bool.not_eq_eq_eq_not, Bool.not_true, Bool.not_false, Int.not_lt, Int.not_le, Decidable.not_not] at h0
      with_reducible refine Rd.next (Rd.seq (Rd.ifS (Rd.test (Rd.op (Rd.var (by walk_at "vr") (Rd.c (Rd.eqS (by walk_at "vr") (Rd.bl ?_))))))))
      refine Rd.ite (fun h1 => ?_) (fun h1 => ?_)
      · try simp only [decide_eq_true_eq, Bool.not_eq_true', decide_eq_false_iff_not, Bool.not_eq_true, Bool.not_eq_eq_eq_not, Bool.not_true, Bool.not_false] at h1
        with_reducible refine Rd.ret (Rd.op (Rd.call (Rd.cons (Rd.call (Rd.cons (Rd.var (by walk_at "vr") (Rd.cons (Rd.c (Rd.nil ?_)))))))))
        refine ⟨_, _, _, rfl, (by walk_at "hp"), (by walk_at "sc"), (by walk_at "sc"), (by walk_at "sc"), fun d3 o3 d3a d3b s3 => ?_⟩
        with_reducible refine Rd.nil ?_
        refine ⟨_, rfl, (by walk_at "sc"), (by walk_at "sc"), ?_⟩
        have pw4 := pow_mono (i := (d3).toNat) (j := 98) (by omega)
        have pp4 := pow_pos2 (d3).toNat
        with_reducible refine Rd.call (Rd.cons (Rd.var (by walk_at "vr") (Rd.cons (Rd.c (Rd.nil ?_)))))
        refine ⟨_, _, _, rfl, (by walk_at "hp"), (by walk_at "sc"), (by walk_at "sc"), (by walk_at "sc"), fun d5 o5 d5a d5b s5 => ?_⟩
        with_reducible refine Rd.i0 ?_
        exact k _ _ _ (by omega) (by omega) (by walk_at "frm") (by walk_at "hp") (by assumption)
      · try simp only [decide_eq_true_eq, Bool.not_eq_true', decide_eq_false_iff_not, Bool.not_eq_true, Bool.not_eq_eq_eq_not, Bool.not_true, Bool.not_false, Int.not_lt, Int.not_le, Decidable.not_not] at h1
        with_reducible refine Rd.next (Rd.ret (Rd.op (Rd.c (Rd.call (Rd.cons (Rd.var (by walk_at "vr") (Rd.cons (Rd.op (Rd.c (Rd.c (Rd.iC (by walk_at "scp") ?_)))))))))))
        with_reducible refine Rd.nil ?_
        refine ⟨_, _, _, rfl, (by walk_at "hp"), (by walk_at "sc"), (by walk_at "sc"), (by walk_at "sc"), fun d6 o6 d6a d6b s6 => ?_⟩
        with_reducible refine Rd.i0 ?_
        exact k _ _ _ (by omega) (by omega) (by walk_at "frm") (by walk_at "hp") (by assumption)
/-! _law_lesser -/
theorem sc_l_lesser : FnScope ["_law_source_here", "_law_n", "_law_gap", "_law_some", "_law_turn", "_law_step"] ["_law_source_here", "_law_n", "_law_gap"] (defScope s_l_lesser) := ⟨rfl, rfl, rfl, by decide +kernel, rfl, by decide +kernel, by decide +kernel⟩
abbrev sp_l_lesser (K : PySem.W.Frag) (A : Adr) : Sp := fun vs H Q _ => ∃ (a : Addr) (o : HO) (n g : Int), vs = [.ref a, .int n, .int g] ∧ H a = some o ∧ SrcO o ∧ 1 ≤ n ∧ n ≤ 1000000000000000000000000000000 ∧ 1 ≤ g ∧ g ≤ 100000000000000000000000000000000 ∧ ∀ (l : Addr) (ls : List V) (o' : HO) (H' : Hp), Frm a H H' → H' a = some o' → SrcO o' → H l = none → H' l = some (.lst ls) → ls.length ≤ 100 → (∀ v ∈ ls, ∃ x : Int, v = .int x ∧ 0 < x ∧ x < g) → Q (.ref l) H'
theorem ok_l_lesser (T : Txt w K mg A) : FnOk P w K mg base CX0 2 A.f_l_lesser A.d_l_lesser ["_law_source_here", "_law_n", "_law_gap"] (sp_l_lesser K A) := by
  refine T.F_l_lesser.ok sc_l_lesser (fun vs H Q E h => ?_) (fun cdv Ar outer s H vs Q E hr h => ?_)
  · obtain ⟨a, o, n, g, rfl, ha, ho, n1, n2, g1, g2, k⟩ := h
    rfl
  · obtain ⟨a, o, n, g, rfl, ha, ho, n1, n2, g1, g2, k⟩ := h
    have hu := hu_of hr
    have t_q_PART_NAMES := T.q_PART_NAMES
    have t_q_PART_WORDS_slot := T.q_PART_WORDS_slot
    have t_d_PART_WORDS_slot := T.d_PART_WORDS_slot
    have t_q_PART_WORDS_empty := T.q_PART_WORDS_empty
    have t_d_PART_WORDS_empty := T.d_PART_WORDS_empty
    have t_q_PART_WORDS_when := T.q_PART_WORDS_when
    have t_d_PART_WORDS_when := T.d_PART_WORDS_when
    have t_q_MEASURES := T.q_MEASURES
    have t_q_SIGNS := T.q_SIGNS
    have t_q_PLAIN_FULLS := T.q_PLAIN_FULLS
    have t_i_Form := T.i_Form
    have t_kt_Form_Form := T.kt_Form_Form
    have t_kt_int_Form := T.kt_int_Form
    have t_nf_Form_Form := T.nf_Form_Form
    have t_nf_int_Form := T.nf_int_Form
    have t_k_Form := T.k_Form
    have t_k_Scheme := T.k_Scheme
    refine ⟨_, (pss_cons (ps_set (i := 3) sc_l_lesser.nd rfl (Or.inl rfl) (pe_lst (pa_cons pe_int (pa_cons pe_int (pa_cons pe_int (pa_cons (pe_op op_sub (pv 2) pe_int) (pa_cons (pe_op op_fdivW (pv 2) pe_int) (pa_cons (pe_op op_sub (pv 1) pe_int) (pa_cons (pv 1) (pa_cons (pe_op op_add (pv 1) pe_int) (pa_cons (pe_op op_mulW pe_int (pv 1)) pa_nil)))))))))))
      (pss_cons (ps_for PassesOwn.never rfl (pi_range1 (by rfl) T.n_range (pa_cons pe_int pa_nil)) (pg_name (i := 4) sc_l_lesser.nd rfl (Or.inl rfl)) (pss_cons (ps_expr (pe_bm PySem.F.plainAttrs_list PySem.F.slot_list_append PySem.F.type_list_append mt_append (pv 3) (pa_cons (pe_call (ok_l_power T) (hr.mono (by decide)) (by rfl) T.m_l_power T.F_l_power.kp T.b_l_power .nil pass0 (pa_cons (pe_call (ok_l_draw T) (hr.mono (by decide)) (by rfl) T.m_l_draw T.F_l_draw.kp T.b_l_draw .nil pass0 (pa_cons (pv 0) (pa_cons pe_int pa_nil))) pa_nil)) pa_nil)))
      (pss_one (ps_expr (pe_bm PySem.F.plainAttrs_list PySem.F.slot_list_append PySem.F.type_list_append mt_append (pv 3) (pa_cons (pe_op op_add pe_int (pe_call (ok_l_draw T) (hr.mono (by decide)) (by rfl) T.m_l_draw T.F_l_draw.kp T.b_l_draw .nil pass0 (pa_cons (pv 0) (pa_cons (pv 2) pa_nil)))) pa_nil))))))
      (pss_one (ps_ret (pe_lc (own := [("_law_step", 5)]) (g := gName 5) rfl sc_l_lesser.nd (pi_list (pv 3)) (blkOk_by (own := [("_law_step", 5)]) (N := ["_law_source_here", "_law_n", "_law_gap", "_law_some", "_law_turn", "_law_step"]) (sc := defScope s_l_lesser) (by decide +kernel)) (fun _ _ _ _ _ => (pg_name (i := 5) sc_l_lesser.nd rfl (Or.inl rfl))) (fun _ _ _ _ _ => pts_one (pt_chain op_lt op_lt pe_int (pv 5) (pv 2))) (fun _ _ _ _ _ => (pv 5))))))), ?_⟩
    try dsimp only [L2.cxOf, L2.Cx.nox, L2.Cx.wish]
    with_reducible refine Rd.seq (Rd.asg (Rd.lst (Rd.cons (Rd.c (Rd.cons (Rd.c (Rd.cons (Rd.c (Rd.cons (Rd.op (Rd.var (by walk_at "vr") ?_)))))))))))
    with_reducible refine Rd.c (Rd.i0 (Rd.cons (Rd.op (Rd.var (by walk_at "vr") (Rd.c (Rd.iC (by walk_at "scd") (Rd.cons (Rd.op (Rd.var (by walk_at "vr") (Rd.c (Rd.i0 ?_)))))))))))
    with_reducible refine Rd.cons (Rd.var (by walk_at "vr") (Rd.cons (Rd.op (Rd.var (by walk_at "vr") (Rd.c (Rd.i0 (Rd.cons (Rd.op (Rd.c (Rd.var (by walk_at "vr") (Rd.iC (by walk_at "scm") ?_)))))))))))
    with_reducible refine Rd.nil (Rd.laid (by walk_at "ll") ?_)
    intro p0 np0
    have ap_p0_a : p0 ≠ a := ne_none' np0 (by walk_at "hp")
    with_reducible refine Rd.name ?_
    try dsimp only [Int.reduceToNat, List.set]
    with_reducible refine Rd.seq (Rd.fr (Rd.rng1 (Rd.cons (Rd.c (Rd.nil (⟨_, rfl, (by walk_at "sc"), (by walk_at "sc"), ?_⟩))))))
    have fr0 : H p0 = none := by walk_at "nn"
    have ne0 : p0 ≠ a := by walk_at "ne"
    refine for_range (lo := 0) (fun (i : Nat) (σ : L2.St) (H' : Hp) => ∃ (v1 v2 : Option V) (acc : List V) (o1 : HO), σ = [some (.ref a), some (.int n), some (.int g), some (.ref p0), v1, v2] ∧ Frm a H H' ∧ H' a = some o1 ∧ SrcO o1 ∧ H' p0 = some (.lst acc) ∧ acc.length ≤ 9 + 2 * i ∧ ∀ v ∈ acc, ∃ x : Int, v = .int x) ⟨_, _, _, _, rfl, (by walk_at "frm"), (by walk_at "hp"), (by assumption), (by walk_at "hp"), (by simp), (by intro v hv; simp only [List.mem_cons, List.not_mem_nil, or_false] at hv; rcases hv with rfl | rfl | rfl | rfl | rfl | rfl | rfl | rfl | rfl <;> exact ⟨_, rfl⟩)⟩ (fun i σ H0 hi ⟨v1, v2, acc, o1, es, F0, ha0, so0, hl0, al0, ai0⟩ => ?_) (fun σ H0 ⟨v1, v2, acc, o1, es, F0, ha0, so0, hl0, al0, ai0⟩ => ?_)
    · subst es
      have al9 : acc.length ≤ 21 := by omega
      with_reducible refine Rd.name (Rd.seq (Rd.drop ?_))
      try unfold tBM
      with_reducible refine Rd.var (by walk_at "vr") ?_
      refine ⟨Or.inl ⟨rfl, _, (by walk_at "hpl")⟩, ?_⟩
      with_reducible refine Rd.cons (Rd.call (Rd.cons (Rd.call (Rd.cons (Rd.var (by walk_at "vr") (Rd.cons (Rd.c (Rd.nil ?_))))))))
      refine ⟨_, _, _, rfl, (by walk_at "hp"), (by walk_at "sc"), (by walk_at "sc"), (by walk_at "sc"), fun d1 o1 d1a d1b s1 => ?_⟩
      with_reducible refine Rd.nil ?_
      refine ⟨_, rfl, (by walk_at "sc"), (by walk_at "sc"), ?_⟩
      have pw2 := pow_le (i := (d1).toNat) (by omega)
      have pp2 := pow_pos2 (d1).toNat
      with_reducible refine Rd.nil ?_
      refine ⟨_, _, _, rfl, rfl, (by walk_at "hp"), (by walk_at "sz"), ?_⟩
      with_reducible refine Rd.drop ?_
      try unfold tBM
      with_reducible refine Rd.var (by walk_at "vr") ?_
      refine ⟨Or.inl ⟨rfl, _, (by walk_at "hpl")⟩, ?_⟩
      with_reducible refine Rd.cons (Rd.op (Rd.c (Rd.call (Rd.cons (Rd.var (by walk_at "vr") (Rd.cons (Rd.var (by walk_at "vr") (Rd.nil ?_))))))))
      refine ⟨_, _, _, rfl, (by walk_at "hp"), (by walk_at "sc"), (by walk_at "sc"), (by walk_at "sc"), fun d3 o3 d3a d3b s3 => ?_⟩
      with_reducible refine Rd.i0 (Rd.nil ?_)
      refine ⟨_, _, _, rfl, rfl, (by walk_at "hp"), (by walk_at "sz"), ?_⟩
      refine ⟨_, _, _, _, rfl, (by walk_at "frm"), (by walk_at "hp"), (by assumption), (by walk_at "hp"), (by simp only [List.length_append, List.length_cons, List.length_nil]; omega), ?_⟩
      intro v hv
      simp only [List.mem_append, List.mem_singleton] at hv
      rcases hv with (hv | rfl) | rfl
      · exact ai0 _ hv
      · exact ⟨_, rfl⟩
      · exact ⟨_, rfl⟩
    · subst es
      have al9 : acc.length ≤ 21 := by omega
      with_reducible refine Rd.ret (Rd.lc (Rd.il (Rd.var (by walk_at "vr") ?_)))
      refine ⟨_, rfl, ⟨_, (by walk_at "hpl")⟩, ?_⟩
      intro D1 nD1
      refine' lc_list (fun i H' => Same H0 H' ∧ ∃ ls, H' D1 = some (.lst ls) ∧ ls.length ≤ i ∧ ∀ v ∈ ls, ∃ x : Int, v = .int x ∧ 0 < x ∧ x < g) (⟨by walk_at "frm", [], L2.upd_same, Nat.le_refl _, fun _ h => nomatch h⟩) (fun i H' _ p => .of (p.1 _ _ hl0)) (fun i x H' hx p => ?lct1_u11) (fun H' p => ?lcd1_u11)
      case lct1_u11 =>
        obtain ⟨S9, ls, hD, hn, hm⟩ := p
        obtain ⟨z, rfl⟩ := ai0 _ (List.mem_of_getElem? hx)
        have i21 : i < acc.length := (List.getElem?_eq_some_iff.mp hx).1
        have ll9 : ls.length ≤ 100 := by omega
        with_reducible refine Rd.name ?_
        refine ⟨rfl, ?_⟩
        with_reducible refine Rd.test (Rd.chain (Rd.c (Rd.var (by walk_at "vr") (Rd.i0 (Rd.bl ?_)))))
        refine' Rd.chainP (d := _) (fun Q0 hq0 => ?pa0) ?pb0
        case pa0 =>
          with_reducible refine Rd.var (by walk_at "vr") (Rd.i0 ?_)
          exact hq0
        rotate_left 0
        with_reducible refine Rd.bl ?_
        refine Rd.ite (fun h1 => ?_) (fun h1 => ?_)
        · try simp only [decide_eq_true_eq, Bool.not_eq_true', decide_eq_false_iff_not, Bool.not_eq_true, Bool.not_eq_eq_eq_not, Bool.not_true, Bool.not_false] at h1
          with_reducible refine Rd.var (by walk_at "vr") ?_
          refine ⟨_, (by walk_at "hp"), (by walk_at "sz"), ?_⟩
          refine ⟨by walk_at "frm", _, L2.upd_same, (by rw [List.length_append]; simp only [List.length_cons, List.length_nil]; omega), fun v hv => ?_⟩
          rcases List.mem_append.mp hv with hv | hv
          · exact hm _ hv
          · rw [List.mem_singleton] at hv
            subst hv
            exact ⟨_, rfl, chainB h1⟩
        · try simp only [decide_eq_true_eq, Bool.not_eq_true', decide_eq_false_iff_not, Bool.not_eq_true, Bool.not_eq_eq_eq_not, Bool.not_true, Bool.not_false, Int.not_lt, Int.not_le, Decidable.not_not] at h1
          exact ⟨S9, ls, hD, by omega, hm⟩
      obtain ⟨S9, ls, hD, hn, hm⟩ := p
      have fD : H D1 = none := by
        rcases hh : H D1 with _ | oo
        · rfl
        · exfalso
          rcases Decidable.em (D1 = a) with q | q
          · rw [q, ha0] at nD1; cases nD1
          · rw [F0 _ _ hh q] at nD1; cases nD1
      exact k _ _ o1 _ (by walk_at "frm") (S9 _ _ ha0) so0 fD hD (by omega) hm
/-! _law_right -/
theorem sc_l_right : FnScope ["_law_source_here", "_law_scheme_here", "_law_parts_here", "_law_n", "_law_modulus_here", "_law_c", "_law_spot", "_law_gap", "_law_step"] ["_law_source_here", "_law_scheme_here", "_law_parts_here", "_law_n", "_law_modulus_here", "_law_c"] (defScope s_l_right) := ⟨rfl, rfl, rfl, by decide +kernel, rfl, by decide +kernel, by decide +kernel⟩
abbrev sp_l_right (K : PySem.W.Frag) (A : Adr) : Sp := fun vs H Q _ => ∃ (a : Addr) (o : HO) (p pp : Addr) (t : Pt) (vt vf : V) (n c : Int), vs = [.ref a, .ref p, .ref pp, .int n, .int (modV t.wrap n), .int c] ∧ H a = some o ∧ SrcO o ∧ IsScheme A H p t ∧ Wf t ∧ H pp = some (.tup [vt, .str t.slot, .str t.empty, vf, .str t.wen]) ∧ 1 ≤ n ∧ n ≤ 1000000000000000000000000000000 ∧ 1 ≤ modV t.wrap n ∧ 0 ≤ c ∧ c < modV t.wrap n ∧ ∀ (o' : HO) (H' : Hp), Frm a H H' → H' a = some o' → SrcO o' → Q (.bl true) H'
theorem ok_l_right (T : Txt w K mg A) : FnOk P w K mg base CX0 7 A.f_l_right A.d_l_right ["_law_source_here", "_law_scheme_here", "_law_parts_here", "_law_n", "_law_modulus_here", "_law_c"] (sp_l_right K A) := by
  refine T.F_l_right.ok sc_l_right (fun vs H Q E h => ?_) (fun cdv Ar outer s H vs Q E hr h => ?_)
  · obtain ⟨a, o, p, pp, t, vt, vf, n, c, rfl, ha, ho, hsch, wf, hpp, n1, n2, m1, c0, cM, k⟩ := h
    rfl
  · obtain ⟨a, o, p, pp, t, vt, vf, n, c, rfl, ha, ho, hsch, wf, hpp, n1, n2, m1, c0, cM, k⟩ := h
    have hu := hu_of hr
    have t_q_PART_NAMES := T.q_PART_NAMES
    have t_q_PART_WORDS_slot := T.q_PART_WORDS_slot
    have t_d_PART_WORDS_slot := T.d_PART_WORDS_slot
    have t_q_PART_WORDS_empty := T.q_PART_WORDS_empty
    have t_d_PART_WORDS_empty := T.d_PART_WORDS_empty
    have t_q_PART_WORDS_when := T.q_PART_WORDS_when
    have t_d_PART_WORDS_when := T.d_PART_WORDS_when
    have t_q_MEASURES := T.q_MEASURES
    have t_q_SIGNS := T.q_SIGNS
    have t_q_PLAIN_FULLS := T.q_PLAIN_FULLS
    have t_i_Form := T.i_Form
    have t_kt_Form_Form := T.kt_Form_Form
    have t_kt_int_Form := T.kt_int_Form
    have t_nf_Form_Form := T.nf_Form_Form
    have t_nf_int_Form := T.nf_int_Form
    have t_k_Form := T.k_Form
    have t_k_Scheme := T.k_Scheme
    have m2 := modV_le wf.w n1 n2
    have ppn : pp ≠ a := by
      obtain ⟨x9, y9, rfl, _⟩ := ho
      exact L2.ne_of hpp ha (by intro z; cases z)
    rcases Decidable.em (slotV t.slot n c = .non) with e | e
    · skip
      refine ⟨_, (pss_cons (ps_set (i := 6) sc_l_right.nd rfl (Or.inl rfl) (pe_call (ok_l_slot T) (hr.mono (by decide)) (by rfl) T.m_l_slot T.F_l_slot.kp T.b_l_slot .nil pass0 (pa_cons (pe_ix ix_tup (pv 2) pe_int (fun _ _ => rfl)) (pa_cons (pv 3) (pa_cons (pv 5) pa_nil)))))
      (pss_cons (ps_set (i := 7) sc_l_right.nd rfl (Or.inl rfl) (pe_call (ok_gap_of T) (hr.mono (by decide)) (by rfl) T.m_gap_of T.F_gap_of.kp T.b_gap_of .nil pass0 (pa_cons (pv 1) (pa_cons (pv 3) (pa_cons (pv 5) pa_nil)))))
      (pss_cons (ps_if (PW.pt (pw_or (pt_cmpR op_isN (pv 6) pe_non (nomark _)) (pw_or1 Rd.ptN))) (pss_one (ps_ret (pe_and (pe_cmpR op_isN (pv 6) pe_non (nomark _)) (pe_one (pe_cmpR op_isN (pv 7) pe_non (nomark _)))))) pss_nil)
      (pss_cons ps_never (pss_cons ps_never (pss_cons ps_never (pss_one ps_never))))))), ?_⟩
      try dsimp only [L2.cxOf, L2.Cx.nox, L2.Cx.wish]
      with_reducible refine Rd.seq (Rd.asg (Rd.call (Rd.cons (Rd.op (Rd.var (by walk_at "vr") (Rd.c (Rd.ixT (by walk_at "hpt") (by walk_at "vr") (Rd.cons (Rd.var (by walk_at "vr") (Rd.cons (Rd.var (by walk_at "vr") ?_)))))))))))
      with_reducible refine Rd.nil ?_
      refine ⟨_, _, _, rfl, wf.s, (by walk_at "sc"), (by walk_at "sc"), ?_⟩
      rw [e]
      with_reducible refine Rd.name ?_
      try dsimp only [Int.reduceToNat, List.set]
      with_reducible refine Rd.seq (Rd.asg (Rd.call (Rd.cons (Rd.var (by walk_at "vr") (Rd.cons (Rd.var (by walk_at "vr") (Rd.cons (Rd.var (by walk_at "vr") (Rd.nil ?_)))))))))
      refine ⟨_, t, _, _, rfl, (by assumption), wf, (by walk_at "sc"), (by walk_at "sc"), (by walk_at "sc"), (by walk_at "sc"), len_ok wf, mask_pow wf, (by walk_at "sc"), (by walk_at "sc"), .inl ⟨e, fun H2 S2 => ?_⟩⟩
      with_reducible refine Rd.name ?_
      try dsimp only [Int.reduceToNat, List.set]
      with_reducible refine Rd.seq (Rd.ifS (Rd.or (Rd.test (Rd.op (Rd.var (by walk_at "vr") (Rd.c (⟨rfl, (Rd.bl (Rd.iteT (by first | with_unfolding_all rfl | walk_at "bT") (Rd.iteT rfl (Rd.ret ?_))))⟩)))))))
      with_reducible refine Rd.andV (Rd.op (Rd.var (by walk_at "vr") (Rd.c (⟨rfl, (Rd.bl (Rd.iteT (by first | with_unfolding_all rfl | walk_at "bT") (Rd.op (Rd.var (by walk_at "vr") (Rd.c (⟨rfl, ?_⟩))))))⟩))))
      exact k _ _ (by walk_at "frm") (by walk_at "hp") (by assumption)
    · obtain ⟨s, e2⟩ := slotV_int e
      refine ⟨_, (pss_cons (ps_set (i := 6) sc_l_right.nd rfl (Or.inl rfl) (pe_call (ok_l_slot T) (hr.mono (by decide)) (by rfl) T.m_l_slot T.F_l_slot.kp T.b_l_slot .nil pass0 (pa_cons (pe_ix ix_tup (pv 2) pe_int (fun _ _ => rfl)) (pa_cons (pv 3) (pa_cons (pv 5) pa_nil)))))
      (pss_cons (ps_set (i := 7) sc_l_right.nd rfl (Or.inl rfl) (pe_call (ok_gap_of T) (hr.mono (by decide)) (by rfl) T.m_gap_of T.F_gap_of.kp T.b_gap_of .nil pass0 (pa_cons (pv 1) (pa_cons (pv 3) (pa_cons (pv 5) pa_nil)))))
      (pss_cons (ps_if (PW.pt (pw_or (pt_cmpR op_isN (pv 6) pe_non (nomark _)) (pw_or1 (pt_cmpR op_isN (pv 7) pe_non (nomark _))))) (pss_one ps_never) pss_nil)
      (pss_cons (ps_if (PW.pt (pw_or (pt_val (pe_callB (Rd.isi (K := K) rfl) (by rfl) T.n_isinstance (by decide +kernel) (pa_cons (pv 7) (pa_cons (pe_bltn (v := .ty "bool") (u := .type "bool") (by rfl) T.n_bool (by decide +kernel) rfl) pa_nil)))) (pw_or (pt_not (pt_val (pe_callB (Rd.isi (K := K) rfl) (by rfl) T.n_isinstance (by decide +kernel) (pa_cons (pv 7) (pa_cons (pe_bltn (v := .ty "int") (u := .type "int") (by rfl) T.n_int (by decide +kernel) rfl) pa_nil))))) (pw_or1 (pt_not (pt_chain op_le op_le pe_int (pv 7) (pv 4))))))) (pss_one ps_never) pss_nil)
      (pss_cons (ps_if (pt_cmpR op_ne (pe_call (ok_l_slot T) (hr.mono (by decide)) (by rfl) T.m_l_slot T.F_l_slot.kp T.b_l_slot .nil pass0 (pa_cons (pe_ix ix_tup (pv 2) pe_int (fun _ _ => rfl)) (pa_cons (pv 3) (pa_cons (pe_op op_mod (pe_callTy call_int1 (by rfl) T.n_int (by decide +kernel) (pa_cons (pe_op op_add (pv 5) (pv 7)) pa_nil)) (pv 4)) pa_nil)))) (pv 6) (nomark _)) (pss_one ps_never) pss_nil)
      (pss_cons (ps_for PassesOwn.never rfl (pi_list (pe_call (ok_l_lesser T) (hr.mono (by decide)) (by rfl) T.m_l_lesser T.F_l_lesser.kp T.b_l_lesser .nil pass0 (pa_cons (pv 0) (pa_cons (pv 3) (pa_cons (pv 7) pa_nil))))) (pg_name (i := 8) sc_l_right.nd rfl (Or.inl rfl)) (pss_one (ps_if (pt_cmpR op_eq (pe_call (ok_l_slot T) (hr.mono (by decide)) (by rfl) T.m_l_slot T.F_l_slot.kp T.b_l_slot .nil pass0 (pa_cons (pe_ix ix_tup (pv 2) pe_int (fun _ _ => rfl)) (pa_cons (pv 3) (pa_cons (pe_op op_mod (pe_callTy call_int1 (by rfl) T.n_int (by decide +kernel) (pa_cons (pe_op op_add (pv 5) (pv 8)) pa_nil)) (pv 4)) pa_nil)))) (pv 6) (nomark _)) (pss_one ps_never) pss_nil)))
      (pss_one (ps_ret pe_bl)))))))), ?_⟩
      try dsimp only [L2.cxOf, L2.Cx.nox, L2.Cx.wish]
      with_reducible refine Rd.seq (Rd.asg (Rd.call (Rd.cons (Rd.op (Rd.var (by walk_at "vr") (Rd.c (Rd.ixT (by walk_at "hpt") (by walk_at "vr") (Rd.cons (Rd.var (by walk_at "vr") (Rd.cons (Rd.var (by walk_at "vr") ?_)))))))))))
      with_reducible refine Rd.nil ?_
      refine ⟨_, _, _, rfl, wf.s, (by walk_at "sc"), (by walk_at "sc"), ?_⟩
      rw [e2]
      with_reducible refine Rd.name ?_
      try dsimp only [Int.reduceToNat, List.set]
      with_reducible refine Rd.seq (Rd.asg (Rd.call (Rd.cons (Rd.var (by walk_at "vr") (Rd.cons (Rd.var (by walk_at "vr") (Rd.cons (Rd.var (by walk_at "vr") (Rd.nil ?_)))))))))
      refine ⟨_, t, _, _, rfl, (by assumption), wf, (by walk_at "sc"), (by walk_at "sc"), (by walk_at "sc"), (by walk_at "sc"), len_ok wf, mask_pow wf, (by walk_at "sc"), (by walk_at "sc"), .inr ⟨e, gaps_ok wf n1 c0 cM e, fun g2 H2 S2 ig2 => ?_⟩⟩
      have gl1 := ig2.1
      have gl2 := ig2.2.1
      with_reducible refine Rd.name ?_
      try dsimp only [Int.reduceToNat, List.set]
      with_reducible refine Rd.seq (Rd.ifS (Rd.or (Rd.test (Rd.op (Rd.var (by walk_at "vr") (Rd.c (⟨rfl, (Rd.bl (Rd.iteF (by first | with_unfolding_all rfl | walk_at "bF") (Rd.test (Rd.op ?_))))⟩)))))))
      with_reducible refine Rd.var (by walk_at "vr") (Rd.c (⟨rfl, (Rd.bl (Rd.iteF (by first | with_unfolding_all rfl | walk_at "bF") (Rd.next (Rd.seq (Rd.ifS (Rd.or (Rd.tb (Rd.cB (Rd.cons ?_)))))))))⟩))
      with_reducible refine Rd.var (by walk_at "vr") (Rd.cons (Rd.c (Rd.nil ?_)))
      refine ⟨_, _, _, _, _, rfl, (by walk_at "clsv"), (by walk_at "tyx"), (by walk_at "kit"), ?_⟩
      with_reducible refine Rd.bl (Rd.iteF (by first | with_unfolding_all rfl | walk_at "bF") (Rd.or (Rd.not (Rd.tb (Rd.cB (Rd.cons (Rd.var (by walk_at "vr") (Rd.cons (Rd.c (Rd.nil ?_))))))))))
      refine ⟨_, _, _, _, _, rfl, (by walk_at "clsv"), (by walk_at "tyx"), (by walk_at "kit"), ?_⟩
      with_reducible refine Rd.bl (Rd.iteF (by first | with_unfolding_all rfl | walk_at "bF") (Rd.not (Rd.test (Rd.chain (Rd.c (Rd.var (by walk_at "vr") (Rd.i0 (Rd.bl (Rd.iteT (by walk_at "bT") (Rd.var (by walk_at "vr") (Rd.i0 ?_)))))))))))
      with_reducible refine Rd.bl (Rd.iteF (by walk_at "bF") (Rd.next (Rd.seq (Rd.ifS (Rd.test (Rd.op (Rd.call (Rd.cons (Rd.op (Rd.var (by walk_at "vr") (Rd.c ?_)))))))))))
      with_reducible refine Rd.ixT (by walk_at "hpt") (by walk_at "vr") (Rd.cons (Rd.var (by walk_at "vr") (Rd.cons (Rd.op (Rd.cB (Rd.cons (Rd.op (Rd.var (by walk_at "vr") (Rd.var (by walk_at "vr") (Rd.i0 (Rd.nil ?_)))))))))))
      with_reducible refine (.inl ⟨_, rfl, (Rd.var (by walk_at "vr") (Rd.iC (by walk_at "sc") (Rd.nil ?_)))⟩)
      have md1 := modG (c + g2) m1
      refine ⟨_, _, _, rfl, wf.s, (by walk_at "sc"), (by walk_at "sc"), ?_⟩
      rw [ig2.2.2.1, e2]
      with_reducible refine Rd.var (by walk_at "vr") ?_
      refine Rd.neS rfl ?_
      with_reducible refine Rd.bl (Rd.iteF (by walk_at "bF") (Rd.next (Rd.seq (Rd.fr (Rd.il (Rd.call (Rd.cons (Rd.var (by walk_at "vr") (Rd.cons (Rd.var (by walk_at "vr") (Rd.cons ?_)))))))))))
      with_reducible refine Rd.var (by walk_at "vr") (Rd.nil ?_)
      refine ⟨_, _, _, _, rfl, (by walk_at "hp"), (by walk_at "sc"), (by walk_at "sc"), (by walk_at "sc"), (by walk_at "sc"), (by walk_at "sc"), fun l4 ls4 o4 H4 F4 r4 so4 nl4 hl4 hc4 hi4 => ?_⟩
      with_reducible refine ⟨_, rfl, ?_⟩
      refine ⟨⟨_, (by walk_at "hpl")⟩, for_list (fun (_ : Nat) (σ : L2.St) (H' : Hp) => ∃ vs9 : Option V, σ = [some (.ref a), some (.ref p), some (.ref pp), some (.int n), some (.int (modV t.wrap n)), some (.int c), some (.int s), some (.int g2), vs9] ∧ H' = H4) ⟨_, rfl, rfl⟩ (fun i σ Hz hi ⟨v9, es, eh⟩ => .of (by rw [eh]; exact hl4)) (fun i x σ Hz hx ⟨v9, es, eh⟩ => ?_) (fun σ Hz ⟨v9, es, eh⟩ => ?_)⟩
      · subst es eh
        obtain ⟨z, rfl, z1, z2⟩ := hi4 _ (List.mem_of_getElem? hx)
        with_reducible refine Rd.name (Rd.ifS (Rd.test (Rd.op (Rd.call (Rd.cons (Rd.op (Rd.var (by walk_at "vr") (Rd.c (Rd.ixT (by walk_at "hpt") (by walk_at "vr") (Rd.cons (Rd.var (by walk_at "vr") ?_)))))))))))
        with_reducible refine Rd.cons (Rd.op (Rd.cB (Rd.cons (Rd.op (Rd.var (by walk_at "vr") (Rd.var (by walk_at "vr") (Rd.i0 (Rd.nil ((.inl ⟨_, rfl, (Rd.var (by walk_at "vr") (Rd.iC (by walk_at "sc") ?_))⟩))))))))))
        with_reducible refine Rd.nil ?_
        have md2 := modG (c + z) m1
        refine ⟨_, _, _, rfl, wf.s, (by walk_at "sc"), (by walk_at "sc"), ?_⟩
        with_reducible refine Rd.var (by walk_at "vr") ?_
        refine Rd.eqS (slotV_scal _ _ _ _) ?_
        rw [decide_eq_false (show ¬ slotV t.slot n ((c + z) % modV t.wrap n) = .int s from fun q => ig2.2.2.2 z (by omega) (by omega) (q.trans e2.symm))]
        with_reducible refine Rd.bl (Rd.iteF (by walk_at "bF") (Rd.next ?_))
        exact ⟨_, rfl, rfl⟩
      · subst es eh
        with_reducible refine Rd.ret (Rd.c ?_)
        exact k _ _ (by walk_at "frm") (by walk_at "hp") (by assumption)
/-! law -/
theorem sc_law : FnScope ["_law_script", "_law_turn", "_law_source_here", "_law_parts_here", "_law_scheme_here", "_law_n", "_law_modulus_here", "_law_some", "_law_c", "_law_one"] ["_law_script"] (defScope s_law) := ⟨rfl, rfl, rfl, by decide +kernel, rfl, by decide +kernel, by decide +kernel⟩
abbrev sp_law (K : PySem.W.Frag) : Sp := fun vs H Q _ => ∃ (a : Addr) (ns : List Int), vs = [.ref a] ∧ SqL K H a (ns.map V.int) ∧ ns.length ≤ 63 ∧ ∀ H', Q (.bl true) H'
theorem ok_law (T : Txt w K mg A) : FnOk P w K mg base CX0 9 A.f_law A.d_law ["_law_script"] (sp_law K) := by
  refine T.F_law.ok sc_law (fun vs H Q E h => ?_) (fun cdv Ar outer s H vs Q E hr h => ?_)
  · obtain ⟨a, ns, rfl, hS, hlen, k⟩ := h
    rfl
  · obtain ⟨a, ns, rfl, hS, hlen, k⟩ := h
    have hu := hu_of hr
    have t_q_PART_NAMES := T.q_PART_NAMES
    have t_q_PART_WORDS_slot := T.q_PART_WORDS_slot
    have t_d_PART_WORDS_slot := T.d_PART_WORDS_slot
    have t_q_PART_WORDS_empty := T.q_PART_WORDS_empty
    have t_d_PART_WORDS_empty := T.d_PART_WORDS_empty
    have t_q_PART_WORDS_when := T.q_PART_WORDS_when
    have t_d_PART_WORDS_when := T.d_PART_WORDS_when
    have t_q_MEASURES := T.q_MEASURES
    have t_q_SIGNS := T.q_SIGNS
    have t_q_PLAIN_FULLS := T.q_PLAIN_FULLS
    have t_i_Form := T.i_Form
    have t_kt_Form_Form := T.kt_Form_Form
    have t_kt_int_Form := T.kt_int_Form
    have t_nf_Form_Form := T.nf_Form_Form
    have t_nf_int_Form := T.nf_int_Form
    have t_k_Form := T.k_Form
    have t_k_Scheme := T.k_Scheme
    refine ⟨_, (pss_cons (ps_for PassesOwn.never rfl (pi_range1 (by rfl) T.n_range (pa_cons (pe_callB (call_max2 rfl) (by rfl) T.n_max (by decide +kernel) (pa_cons pe_int (pa_cons (pe_callB (call_min2 rfl) (by rfl) T.n_min (by decide +kernel) (pa_cons (pe_callB call_len_seq (by rfl) T.n_len PySem.boot_len (pa_cons (pv 0) pa_nil)) (pa_cons pe_int pa_nil))) pa_nil))) pa_nil)) (pg_name (i := 1) sc_law.nd rfl (Or.inl rfl)) (pss_cons (ps_set (i := 2) sc_law.nd rfl (Or.inl rfl) (pe_call (ok_l_source T) (hr.mono (by decide)) (by rfl) T.m_l_source T.F_l_source.kp T.b_l_source .nil pass0 (pa_cons (pv 0) (pa_cons (pv 1) pa_nil))))
      (pss_cons (ps_set (i := 3) sc_law.nd rfl (Or.inl rfl) (pe_call (ok_l_parts T) (hr.mono (by decide)) (by rfl) T.m_l_parts T.F_l_parts.kp T.b_l_parts .nil pass0 (pa_cons (pv 2) (pa_cons pe_int pa_nil))))
      (pss_cons (ps_set (i := 4) sc_law.nd rfl (Or.inl rfl) (pe_call (ok_l_scheme T) (hr.mono (by decide)) (by rfl) T.m_l_scheme T.F_l_scheme.kp T.b_l_scheme .nil pass0 (pa_cons (pv 3) pa_nil)))
      (pss_cons (ps_set (i := 5) sc_law.nd rfl (Or.inl rfl) (pe_callB (call_min2 rfl) (by rfl) T.n_min (by decide +kernel) (pa_cons (pe_call (ok_l_size T) (hr.mono (by decide)) (by rfl) T.m_l_size T.F_l_size.kp T.b_l_size .nil pass0 (pa_cons (pv 2) pa_nil)) (pa_cons (pe_op op_pow pe_int pe_int) pa_nil))))
      (pss_cons (ps_set (i := 6) sc_law.nd rfl (Or.inr rfl) (pe_call (ok_l_modulus T) (hr.mono (by decide)) (by rfl) T.m_l_modulus T.F_l_modulus.kp T.b_l_modulus .nil pass0 (pa_cons (pe_ix ix_tup (pv 3) pe_int (fun _ _ => rfl)) (pa_cons (pv 5) pa_nil))))
      (pss_one (ps_if (pt_cmpR op_ge (pv 6) pe_int (nomark _)) (pss_cons (ps_set (i := 7) sc_law.nd rfl (Or.inl rfl) (pe_lst (pa_cons pe_int (pa_cons (pe_op op_sub (pv 6) pe_int) (pa_cons (pe_op op_sub (pv 6) (pv 5)) (pa_cons (pe_op op_sub (pv 6) (pe_op op_mod (pe_callTy call_int1 (by rfl) T.n_int (by decide +kernel) (pa_cons (pv 6) pa_nil)) (pv 5))) (pa_cons (pv 5) (pa_cons (pe_op op_mulW pe_int (pv 5)) (pa_cons (pe_call (ok_l_draw T) (hr.mono (by decide)) (by rfl) T.m_l_draw T.F_l_draw.kp T.b_l_draw .nil pass0 (pa_cons (pv 2) (pa_cons (pv 6) pa_nil))) pa_nil)))))))))
      (pss_one (ps_for PassesOwn.never rfl (pi_list (pe_lc (own := [("_law_one", 9)]) (g := gName 9) rfl sc_law.nd (pi_list (pv 7)) (blkOk_by (own := [("_law_one", 9)]) (N := ["_law_script", "_law_turn", "_law_source_here", "_law_parts_here", "_law_scheme_here", "_law_n", "_law_modulus_here", "_law_some", "_law_c", "_law_one"]) (sc := defScope s_law) (by decide +kernel)) (fun _ _ _ _ _ => (pg_name (i := 9) sc_law.nd rfl (Or.inl rfl))) (fun _ _ _ _ _ => pts_nil) (fun _ _ _ _ _ => (pe_op op_mod (pe_callTy call_int1 (by rfl) T.n_int (by decide +kernel) (pa_cons (pv 9) pa_nil)) (pv 6))))) (pg_name (i := 8) sc_law.nd rfl (Or.inl rfl)) (pss_one (ps_if (pt_not (pt_val (pe_call (ok_l_right T) (hr.mono (by decide)) (by rfl) T.m_l_right T.F_l_right.kp T.b_l_right .nil pass0 (pa_cons (pv 2) (pa_cons (pv 4) (pa_cons (pv 3) (pa_cons (pv 5) (pa_cons (pv 6) (pa_cons (pv 8) pa_nil))))))))) (pss_one ps_never) pss_nil))))) pss_nil))))))))
      (pss_one (ps_ret pe_bl))), ?_⟩
    try dsimp only [L2.cxOf, L2.Cx.nox, L2.Cx.wish]
    with_reducible refine Rd.seq (Rd.fr (Rd.rng1 (Rd.cons (Rd.cB (Rd.cons (Rd.c (Rd.cons (Rd.cB (Rd.cons (Rd.cB (Rd.cons ?_)))))))))))
    with_reducible refine Rd.var (by walk_at "vr") (Rd.nil (⟨_, _, rfl, (by walk_at "hpq"), (Rd.cons (Rd.c (Rd.nil (⟨_, _, rfl, (Rd.nil (⟨_, _, rfl, (Rd.nil (⟨_, rfl, (by walk_at "sc"), (by walk_at "sc"), ?_⟩))⟩))⟩))))⟩))
    refine for_range (lo := 0) (fun (_ : Nat) (σ : L2.St) (H' : Hp) => ∃ v_turn v_source_here v_parts_here v_scheme_here v_n v_modulus_here v_some v_c v_one : Option V, σ = [some (.ref a), v_turn, v_source_here, v_parts_here, v_scheme_here, v_n, v_modulus_here, v_some, v_c, v_one] ∧ Same H H') ⟨none, none, none, none, none, none, none, none, none, rfl, Same.refl _⟩ (fun i σ H0 hi ⟨v_turn, v_source_here, v_parts_here, v_scheme_here, v_n, v_modulus_here, v_some, v_c, v_one, es, S0⟩ => ?_) (fun σ H0 ⟨v_turn, v_source_here, v_parts_here, v_scheme_here, v_n, v_modulus_here, v_some, v_c, v_one, es, S0⟩ => ?_)
    · subst es
      have hS0 := Same.seq S0 hS
      with_reducible refine Rd.name (Rd.seq (Rd.asg (Rd.call (Rd.cons (Rd.var (by walk_at "vr") (Rd.cons (Rd.var (by walk_at "vr") (Rd.nil ?_))))))))
      refine ⟨_, _, _, rfl, (by walk_at "hpl"), (by walk_at "sc"), (by walk_at "sc"), fun src1 o1 src1n s1 => ?_⟩
      with_reducible refine Rd.name ?_
      try dsimp only [Int.reduceToNat, List.set]
      with_reducible refine Rd.seq (Rd.asg (Rd.call (Rd.cons (Rd.var (by walk_at "vr") (Rd.cons (Rd.c (Rd.nil ?_)))))))
      refine ⟨_, _, _, rfl, (by walk_at "hp"), (by walk_at "sc"), (by walk_at "sc"), (by walk_at "sc"), fun v2 t2 o2 H2 F2 r2 so2 ip2 wf2 wd2 => ?_⟩
      obtain ⟨pp, vt, vf, rfl, hpp, htt, hff⟩ := ip2
      with_reducible refine Rd.name ?_
      try dsimp only [Int.reduceToNat, List.set]
      with_reducible refine Rd.seq (Rd.asg (Rd.call (Rd.cons (Rd.var (by walk_at "vr") (Rd.nil ?_)))))
      refine ⟨_, _, rfl, ⟨_, _, _, rfl, hpp, htt, hff⟩, wf2, fun p3 H3 S3 np3 i3 => ?_⟩
      have hsrc : H3 src1 = some o2 := S3 _ _ r2
      obtain ⟨xs2, ys2, rfl, so2b⟩ := so2
      have so2 : SrcO (.lst [.int xs2, .int ys2]) := ⟨xs2, ys2, rfl, so2b⟩
      have ppn : pp ≠ src1 := L2.ne_of (S3 _ _ hpp) hsrc (by intro z; cases z)
      with_reducible refine Rd.name ?_
      try dsimp only [Int.reduceToNat, List.set]
      with_reducible refine Rd.seq (Rd.asg (Rd.cB (Rd.cons (Rd.call (Rd.cons (Rd.var (by walk_at "vr") (Rd.nil ?_)))))))
      refine ⟨_, _, rfl, (by walk_at "hp"), (by walk_at "sc"), fun n4 o4 H4 ln4 un4 F4 r4 so4 => ?_⟩
      with_reducible refine Rd.cons (Rd.op (Rd.c (Rd.c (Rd.iC (by walk_at "scp") (Rd.nil (⟨_, _, rfl, (Rd.name ?_)⟩))))))
      try dsimp only [Int.reduceToNat, List.set]
      rw [min30 un4]
      with_reducible refine Rd.seq (Rd.asg (Rd.call (Rd.cons (Rd.op (Rd.var (by walk_at "vr") (Rd.c (Rd.ixT (by walk_at "hpt") (by walk_at "vr") (Rd.cons (Rd.var (by walk_at "vr") (Rd.nil ?_))))))))))
      have ht4 := (htt.same S3).frmS F4 hsrc so2
      refine ⟨_, _, _, rfl, ht4, wf2.w, (by walk_at "sc"), (by walk_at "sc"), ?_⟩
      have mle := modV_le wf2.w ln4 un4
      with_reducible refine Rd.name ?_
      try dsimp only [Int.reduceToNat, List.set]
      with_reducible refine Rd.ifS (Rd.test (Rd.op (Rd.var (by walk_at "vr") (Rd.c (Rd.i0 (Rd.bl ?_))))))
      refine Rd.ite (fun h0 => ?_) (fun h0 => ?_)
      · try simp only [decide_eq_true_eq, Bool.not_eq_true', decide_eq_false_iff_not, Bool.not_eq_true, Bool.not_eq_eq_eq_not, Bool.not_true, Bool.not_false] at h0
        with_reducible refine Rd.seq (Rd.asg (Rd.lst (Rd.cons (Rd.c (Rd.cons (Rd.op (Rd.var (by walk_at "vr") (Rd.c (Rd.i0 (Rd.cons (Rd.op ?_)))))))))))
        with_reducible refine Rd.var (by walk_at "vr") (Rd.var (by walk_at "vr") (Rd.i0 (Rd.cons (Rd.op (Rd.var (by walk_at "vr") (Rd.op (Rd.cB (Rd.cons (Rd.var (by walk_at "vr") (Rd.nil ((.inl ⟨_, rfl, ?_⟩))))))))))))
        with_reducible refine Rd.var (by walk_at "vr") (Rd.iC (by walk_at "sc") (Rd.i0 (Rd.cons (Rd.var (by walk_at "vr") (Rd.cons (Rd.op (Rd.c (Rd.var (by walk_at "vr") (Rd.iC (by walk_at "scm") (Rd.cons (Rd.call ?_)))))))))))
        with_reducible refine Rd.cons (Rd.var (by walk_at "vr") (Rd.cons (Rd.var (by walk_at "vr") (Rd.nil ?_))))
        refine ⟨_, _, _, rfl, (by walk_at "hp"), (by walk_at "sc"), (by walk_at "sc"), (by walk_at "sc"), fun d6 o6 d6a d6b s6 => ?_⟩
        with_reducible refine Rd.nil (Rd.laid (by walk_at "ll") ?_)
        intro p0 np0
        with_reducible refine Rd.name ?_
        try dsimp only [Int.reduceToNat, List.set]
        with_reducible refine Rd.fr (Rd.il (Rd.lc (Rd.il (Rd.var (by walk_at "vr") ?_))))
        refine ⟨_, rfl, ?_⟩
        refine Rd.lcUnrL (by walk_at "hpl") ?_
        intro D1 nD1
        refine Rd.remCons (by walk_at "hpl") ?_
        with_reducible refine Rd.name ?_
        refine ⟨rfl, ?_⟩
        refine Rd.yes (Rd.iteT rfl ?_)
        with_reducible refine Rd.op (Rd.cB (Rd.cons (Rd.var (by walk_at "vr") (Rd.nil ((.inl ⟨_, rfl, (Rd.var (by walk_at "vr") (Rd.iC (by walk_at "sc") ?_))⟩))))))
        refine ⟨_, (by walk_at "hp"), L2.small1000 (by walk_at "ll"), ?_⟩
        refine Rd.remCons (by walk_at "hpl") ?_
        with_reducible refine Rd.name ?_
        refine ⟨rfl, ?_⟩
        refine Rd.yes (Rd.iteT rfl ?_)
        with_reducible refine Rd.op (Rd.cB (Rd.cons (Rd.var (by walk_at "vr") (Rd.nil ((.inl ⟨_, rfl, (Rd.var (by walk_at "vr") (Rd.iC (by walk_at "sc") ?_))⟩))))))
        refine ⟨_, (by walk_at "hp"), L2.small1000 (by walk_at "ll"), ?_⟩
        refine Rd.remCons (by walk_at "hpl") ?_
        with_reducible refine Rd.name ?_
        refine ⟨rfl, ?_⟩
        refine Rd.yes (Rd.iteT rfl ?_)
        with_reducible refine Rd.op (Rd.cB (Rd.cons (Rd.var (by walk_at "vr") (Rd.nil ((.inl ⟨_, rfl, (Rd.var (by walk_at "vr") (Rd.iC (by walk_at "sc") ?_))⟩))))))
        refine ⟨_, (by walk_at "hp"), L2.small1000 (by walk_at "ll"), ?_⟩
        refine Rd.remCons (by walk_at "hpl") ?_
        with_reducible refine Rd.name ?_
        refine ⟨rfl, ?_⟩
        refine Rd.yes (Rd.iteT rfl ?_)
        with_reducible refine Rd.op (Rd.cB (Rd.cons (Rd.var (by walk_at "vr") (Rd.nil ((.inl ⟨_, rfl, (Rd.var (by walk_at "vr") (Rd.iC (by walk_at "sc") ?_))⟩))))))
        refine ⟨_, (by walk_at "hp"), L2.small1000 (by walk_at "ll"), ?_⟩
        refine Rd.remCons (by walk_at "hpl") ?_
        with_reducible refine Rd.name ?_
        refine ⟨rfl, ?_⟩
        refine Rd.yes (Rd.iteT rfl ?_)
        with_reducible refine Rd.op (Rd.cB (Rd.cons (Rd.var (by walk_at "vr") (Rd.nil ((.inl ⟨_, rfl, (Rd.var (by walk_at "vr") (Rd.iC (by walk_at "sc") ?_))⟩))))))
        refine ⟨_, (by walk_at "hp"), L2.small1000 (by walk_at "ll"), ?_⟩
        refine Rd.remCons (by walk_at "hpl") ?_
        with_reducible refine Rd.name ?_
        refine ⟨rfl, ?_⟩
        refine Rd.yes (Rd.iteT rfl ?_)
        with_reducible refine Rd.op (Rd.cB (Rd.cons (Rd.var (by walk_at "vr") (Rd.nil ((.inl ⟨_, rfl, (Rd.var (by walk_at "vr") (Rd.iC (by walk_at "sc") ?_))⟩))))))
        refine ⟨_, (by walk_at "hp"), L2.small1000 (by walk_at "ll"), ?_⟩
        refine Rd.remCons (by walk_at "hpl") ?_
        with_reducible refine Rd.name ?_
        refine ⟨rfl, ?_⟩
        refine Rd.yes (Rd.iteT rfl ?_)
        with_reducible refine Rd.op (Rd.cB (Rd.cons (Rd.var (by walk_at "vr") (Rd.nil ((.inl ⟨_, rfl, (Rd.var (by walk_at "vr") (Rd.iC (by walk_at "sc") ?_))⟩))))))
        refine ⟨_, (by walk_at "hp"), L2.small1000 (by walk_at "ll"), ?_⟩
        refine Rd.remNil (by walk_at "hpl") ?_
        simp (proj := false) only [List.nil_append, List.cons_append, L2.upd_upd]
        with_reducible refine ⟨_, rfl, ?_⟩
        obtain ⟨xz6, yz6, rfl, sz6⟩ := s6
        have s6 : SrcO (.lst [.int xz6, .int yz6]) := ⟨xz6, yz6, rfl, sz6⟩
        have m1 : 1 ≤ modV t2.wrap n4 := h0
        have p0s : p0 ≠ src1 := ne_none' np0 L2.upd_same
        have Ds : D1 ≠ src1 := ne_none' nD1 (by walk_at "hp")
        have Dp : D1 ≠ p0 := ne_none' nD1 L2.upd_same
        have q1 : Same H0 (upd (upd (upd H4 src1 (.lst [.int xz6, .int yz6])) p0 (.lst [.int 0, .int (modV t2.wrap n4 - 1), .int (modV t2.wrap n4 - n4), .int (modV t2.wrap n4 - modV t2.wrap n4 % n4), .int n4, .int (2 * n4), .int d6])) D1 (.lst [V.int (0 % modV t2.wrap n4), V.int ((modV t2.wrap n4 - 1) % modV t2.wrap n4), V.int ((modV t2.wrap n4 - n4) % modV t2.wrap n4), V.int ((modV t2.wrap n4 - modV t2.wrap n4 % n4) % modV t2.wrap n4), V.int (n4 % modV t2.wrap n4), V.int (2 * n4 % modV t2.wrap n4), V.int (d6 % modV t2.wrap n4)])) := by walk_at "frm"
        have q2 : (upd (upd (upd H4 src1 (.lst [.int xz6, .int yz6])) p0 (.lst [.int 0, .int (modV t2.wrap n4 - 1), .int (modV t2.wrap n4 - n4), .int (modV t2.wrap n4 - modV t2.wrap n4 % n4), .int n4, .int (2 * n4), .int d6])) D1 (.lst [V.int (0 % modV t2.wrap n4), V.int ((modV t2.wrap n4 - 1) % modV t2.wrap n4), V.int ((modV t2.wrap n4 - n4) % modV t2.wrap n4), V.int ((modV t2.wrap n4 - modV t2.wrap n4 % n4) % modV t2.wrap n4), V.int (n4 % modV t2.wrap n4), V.int (2 * n4 % modV t2.wrap n4), V.int (d6 % modV t2.wrap n4)])) src1 = some (.lst [.int xz6, .int yz6]) := by walk_at "hp"
        have q3 : (upd (upd (upd H4 src1 (.lst [.int xz6, .int yz6])) p0 (.lst [.int 0, .int (modV t2.wrap n4 - 1), .int (modV t2.wrap n4 - n4), .int (modV t2.wrap n4 - modV t2.wrap n4 % n4), .int n4, .int (2 * n4), .int d6])) D1 (.lst [V.int (0 % modV t2.wrap n4), V.int ((modV t2.wrap n4 - 1) % modV t2.wrap n4), V.int ((modV t2.wrap n4 - n4) % modV t2.wrap n4), V.int ((modV t2.wrap n4 - modV t2.wrap n4 % n4) % modV t2.wrap n4), V.int (n4 % modV t2.wrap n4), V.int (2 * n4 % modV t2.wrap n4), V.int (d6 % modV t2.wrap n4)])) pp = some (.tup [vt, .str t2.slot, .str t2.empty, vf, .str t2.wen]) := by walk_at "hp"
        have q4 : IsScheme A (upd (upd (upd H4 src1 (.lst [.int xz6, .int yz6])) p0 (.lst [.int 0, .int (modV t2.wrap n4 - 1), .int (modV t2.wrap n4 - n4), .int (modV t2.wrap n4 - modV t2.wrap n4 % n4), .int n4, .int (2 * n4), .int d6])) D1 (.lst [V.int (0 % modV t2.wrap n4), V.int ((modV t2.wrap n4 - 1) % modV t2.wrap n4), V.int ((modV t2.wrap n4 - n4) % modV t2.wrap n4), V.int ((modV t2.wrap n4 - modV t2.wrap n4 % n4) % modV t2.wrap n4), V.int (n4 % modV t2.wrap n4), V.int (2 * n4 % modV t2.wrap n4), V.int (d6 % modV t2.wrap n4)])) p3 t2 := i3.keepN (fun b o hb hn => by have n1 : b ≠ src1 := (fun z => by subst z; rw [hsrc] at hb; cases hb; exact hn _ rfl); walk_at "hp")
        have q5 : (upd (upd (upd H4 src1 (.lst [.int xz6, .int yz6])) p0 (.lst [.int 0, .int (modV t2.wrap n4 - 1), .int (modV t2.wrap n4 - n4), .int (modV t2.wrap n4 - modV t2.wrap n4 % n4), .int n4, .int (2 * n4), .int d6])) D1 (.lst [V.int (0 % modV t2.wrap n4), V.int ((modV t2.wrap n4 - 1) % modV t2.wrap n4), V.int ((modV t2.wrap n4 - n4) % modV t2.wrap n4), V.int ((modV t2.wrap n4 - modV t2.wrap n4 % n4) % modV t2.wrap n4), V.int (n4 % modV t2.wrap n4), V.int (2 * n4 % modV t2.wrap n4), V.int (d6 % modV t2.wrap n4)])) D1 = some (.lst [V.int (0 % modV t2.wrap n4), V.int ((modV t2.wrap n4 - 1) % modV t2.wrap n4), V.int ((modV t2.wrap n4 - n4) % modV t2.wrap n4), V.int ((modV t2.wrap n4 - modV t2.wrap n4 % n4) % modV t2.wrap n4), V.int (n4 % modV t2.wrap n4), V.int (2 * n4 % modV t2.wrap n4), V.int (d6 % modV t2.wrap n4)]) := L2.upd_same
        refine ⟨⟨_, (by walk_at "hpl")⟩, for_list (xs := [V.int (0 % modV t2.wrap n4), V.int ((modV t2.wrap n4 - 1) % modV t2.wrap n4), V.int ((modV t2.wrap n4 - n4) % modV t2.wrap n4), V.int ((modV t2.wrap n4 - modV t2.wrap n4 % n4) % modV t2.wrap n4), V.int (n4 % modV t2.wrap n4), V.int (2 * n4 % modV t2.wrap n4), V.int (d6 % modV t2.wrap n4)]) (fun (_ : Nat) (σ : L2.St) (H' : Hp) => ∃ v_turn v_some v_c v_one : Option V, ∃ xz yz : Int, σ = [some (.ref a), v_turn, some (.ref src1), some (.ref pp), some (.ref p3), some (.int n4), some (.int (modV t2.wrap n4)), v_some, v_c, v_one] ∧ Same H0 H' ∧ H' src1 = some (.lst [.int xz, .int yz]) ∧ SrcO (.lst [.int xz, .int yz]) ∧ H' D1 = some (.lst [V.int (0 % modV t2.wrap n4), V.int ((modV t2.wrap n4 - 1) % modV t2.wrap n4), V.int ((modV t2.wrap n4 - n4) % modV t2.wrap n4), V.int ((modV t2.wrap n4 - modV t2.wrap n4 % n4) % modV t2.wrap n4), V.int (n4 % modV t2.wrap n4), V.int (2 * n4 % modV t2.wrap n4), V.int (d6 % modV t2.wrap n4)]) ∧ IsScheme A H' p3 t2 ∧ H' pp = some (.tup [vt, .str t2.slot, .str t2.empty, vf, .str t2.wen])) ⟨_, _, _, _, _, _, rfl, q1, q2, s6, q5, q4, q3⟩ (fun j σ Hz hj ⟨v_turn, v_some, v_c, v_one, xz, yz, es, Sz, hz, sz, hDz, iz, hpz⟩ => .of hDz) (fun j x σ Hz hx ⟨v_turn, v_some, v_c, v_one, xz, yz, es, Sz, hz, sz, hDz, iz, hpz⟩ => ?_) (fun σ Hz ⟨v_turn, v_some, v_c, v_one, xz, yz, es, Sz, hz, sz, hDz, iz, hpz⟩ => ?_)⟩
        · subst es
          have hxm := List.mem_of_getElem? hx
          obtain ⟨z, rfl, z0, zM⟩ : ∃ z : Int, x = .int z ∧ 0 ≤ z ∧ z < modV t2.wrap n4 := by
            simp only [List.mem_cons, List.not_mem_nil, or_false] at hxm
            rcases hxm with rfl | rfl | rfl | rfl | rfl | rfl | rfl <;> exact ⟨_, rfl, modG _ m1⟩
          have Ds : D1 ≠ src1 := L2.ne_of hDz hz (by intro q; cases q)
          with_reducible refine Rd.name (Rd.ifS (Rd.not (Rd.tb (Rd.call (Rd.cons (Rd.var (by walk_at "vr") (Rd.cons (Rd.var (by walk_at "vr") (Rd.cons (Rd.var (by walk_at "vr") (Rd.cons ?_)))))))))))
          with_reducible refine Rd.var (by walk_at "vr") (Rd.cons (Rd.var (by walk_at "vr") (Rd.cons (Rd.var (by walk_at "vr") (Rd.nil ?_)))))
          refine ⟨_, _, _, _, _, _, _, _, _, rfl, (by walk_at "hp"), (by walk_at "sc"), (by assumption), (by assumption), (by walk_at "hp"), (by walk_at "sc"), (by walk_at "sc"), (by walk_at "sc"), (by walk_at "sc"), (by walk_at "sc"), fun o7 H7 F7 r7 so7 => ?_⟩
          with_reducible refine Rd.bl (Rd.iteF (by walk_at "bF") (Rd.next ?_))
          obtain ⟨xw, yw, rfl, sw⟩ := so7
          exact ⟨_, _, _, _, _, _, rfl, (by walk_at "frm"), (by walk_at "hp"), ⟨_, _, rfl, sw⟩, (by walk_at "hp"), iz.keepN (fun b o hb hn => by have n1 : b ≠ src1 := (fun z => by subst z; rw [hz] at hb; cases hb; exact hn _ rfl); walk_at "hp"), (by walk_at "hp")⟩
        · subst es
          exact ⟨_, _, _, _, _, _, _, _, _, rfl, (by walk_at "frm")⟩
      · try simp only [decide_eq_true_eq, Bool.not_eq_true', decide_eq_false_iff_not, Bool.not_eq_true, Bool.not_eq_eq_eq_not, Bool.not_true, Bool.not_false, Int.not_lt, Int.not_le, Decidable.not_not] at h0
        with_reducible refine Rd.next ?_
        exact ⟨_, _, _, _, _, _, _, _, _, rfl, (by walk_at "frm")⟩
    · subst es
      with_reducible refine Rd.ret (Rd.c ?_)
      exact k _
end
theorem all_mk {l : PySem.W.OpenLaw} {w : World} {K : PySem.W.Frag} {h : Heap} {mg : Str → Option Value} {fa f_is_whole f_is_whole_from f_is_word_of f_is_size f_check_size f_Formu__initu_ f_form_at f_mask_of f_steps_to_bits f_mask_gaps f_off_spans f_rest_spans f_steps_to_span f_gaps_from f_Scheme_wrap f_wrap_at f_modulus_of f_Scheme_slot f_check_counter f_slot_at f_gap_of f_is_small_form f_is_full f_is_wrap f_is_part f_first_wrong f_Schemeu__initu_ f_l_source f_l_draw f_l_pick f_l_limit f_l_parts f_l_wrap f_l_rule f_l_scheme f_l_modulus f_l_slot f_l_power f_l_size f_l_lesser f_l_right f_law c_Form c_Scheme p_Scheme_wrap p_Scheme_slot : Addr} (X : K.In h) (G : h.Ns mainGlobals mg) (hfa : mg "law" = some (.ref fa))
    {od_is_whole an_is_whole : Option Addr} {sl_is_whole : Array (Option Value)} {oc_is_whole kV_is_whole dc_is_whole pm_is_whole cd_is_whole ct_is_whole : Value}
    {od_is_whole_from an_is_whole_from : Option Addr} {sl_is_whole_from : Array (Option Value)} {oc_is_whole_from kV_is_whole_from dc_is_whole_from pm_is_whole_from cd_is_whole_from ct_is_whole_from : Value}
    {od_is_word_of an_is_word_of : Option Addr} {sl_is_word_of : Array (Option Value)} {oc_is_word_of kV_is_word_of dc_is_word_of pm_is_word_of cd_is_word_of ct_is_word_of : Value}
    {od_is_size an_is_size : Option Addr} {sl_is_size : Array (Option Value)} {oc_is_size kV_is_size dc_is_size pm_is_size cd_is_size ct_is_size : Value}
    {od_check_size an_check_size : Option Addr} {sl_check_size : Array (Option Value)} {oc_check_size kV_check_size dc_check_size pm_check_size cd_check_size ct_check_size : Value}
    {od_Formu__initu_ an_Formu__initu_ : Option Addr} {sl_Formu__initu_ : Array (Option Value)} {oc_Formu__initu_ kV_Formu__initu_ dc_Formu__initu_ pm_Formu__initu_ cd_Formu__initu_ ct_Formu__initu_ : Value}
    {od_form_at an_form_at : Option Addr} {sl_form_at : Array (Option Value)} {oc_form_at kV_form_at dc_form_at pm_form_at cd_form_at ct_form_at : Value}
    {od_mask_of an_mask_of : Option Addr} {sl_mask_of : Array (Option Value)} {oc_mask_of kV_mask_of dc_mask_of pm_mask_of cd_mask_of ct_mask_of : Value}
    {od_steps_to_bits an_steps_to_bits : Option Addr} {sl_steps_to_bits : Array (Option Value)} {oc_steps_to_bits kV_steps_to_bits dc_steps_to_bits pm_steps_to_bits cd_steps_to_bits ct_steps_to_bits : Value}
    {od_mask_gaps an_mask_gaps : Option Addr} {sl_mask_gaps : Array (Option Value)} {oc_mask_gaps kV_mask_gaps dc_mask_gaps pm_mask_gaps cd_mask_gaps ct_mask_gaps : Value}
    {od_off_spans an_off_spans : Option Addr} {sl_off_spans : Array (Option Value)} {oc_off_spans kV_off_spans dc_off_spans pm_off_spans cd_off_spans ct_off_spans : Value}
    {od_rest_spans an_rest_spans : Option Addr} {sl_rest_spans : Array (Option Value)} {oc_rest_spans kV_rest_spans dc_rest_spans pm_rest_spans cd_rest_spans ct_rest_spans : Value}
    {od_steps_to_span an_steps_to_span : Option Addr} {sl_steps_to_span : Array (Option Value)} {oc_steps_to_span kV_steps_to_span dc_steps_to_span pm_steps_to_span cd_steps_to_span ct_steps_to_span : Value}
    {od_gaps_from an_gaps_from : Option Addr} {sl_gaps_from : Array (Option Value)} {oc_gaps_from kV_gaps_from dc_gaps_from pm_gaps_from cd_gaps_from ct_gaps_from : Value}
    {od_Scheme_wrap an_Scheme_wrap : Option Addr} {sl_Scheme_wrap : Array (Option Value)} {oc_Scheme_wrap kV_Scheme_wrap dc_Scheme_wrap pm_Scheme_wrap cd_Scheme_wrap ct_Scheme_wrap : Value}
    {od_wrap_at an_wrap_at : Option Addr} {sl_wrap_at : Array (Option Value)} {oc_wrap_at kV_wrap_at dc_wrap_at pm_wrap_at cd_wrap_at ct_wrap_at : Value}
    {od_modulus_of an_modulus_of : Option Addr} {sl_modulus_of : Array (Option Value)} {oc_modulus_of kV_modulus_of dc_modulus_of pm_modulus_of cd_modulus_of ct_modulus_of : Value}
    {od_Scheme_slot an_Scheme_slot : Option Addr} {sl_Scheme_slot : Array (Option Value)} {oc_Scheme_slot kV_Scheme_slot dc_Scheme_slot pm_Scheme_slot cd_Scheme_slot ct_Scheme_slot : Value}
    {od_check_counter an_check_counter : Option Addr} {sl_check_counter : Array (Option Value)} {oc_check_counter kV_check_counter dc_check_counter pm_check_counter cd_check_counter ct_check_counter : Value}
    {od_slot_at an_slot_at : Option Addr} {sl_slot_at : Array (Option Value)} {oc_slot_at kV_slot_at dc_slot_at pm_slot_at cd_slot_at ct_slot_at : Value}
    {od_gap_of an_gap_of : Option Addr} {sl_gap_of : Array (Option Value)} {oc_gap_of kV_gap_of dc_gap_of pm_gap_of cd_gap_of ct_gap_of : Value}
    {od_is_small_form an_is_small_form : Option Addr} {sl_is_small_form : Array (Option Value)} {oc_is_small_form kV_is_small_form dc_is_small_form pm_is_small_form cd_is_small_form ct_is_small_form : Value}
    {od_is_full an_is_full : Option Addr} {sl_is_full : Array (Option Value)} {oc_is_full kV_is_full dc_is_full pm_is_full cd_is_full ct_is_full : Value}
    {od_is_wrap an_is_wrap : Option Addr} {sl_is_wrap : Array (Option Value)} {oc_is_wrap kV_is_wrap dc_is_wrap pm_is_wrap cd_is_wrap ct_is_wrap : Value}
    {od_is_part an_is_part : Option Addr} {sl_is_part : Array (Option Value)} {oc_is_part kV_is_part dc_is_part pm_is_part cd_is_part ct_is_part : Value}
    {od_first_wrong an_first_wrong : Option Addr} {sl_first_wrong : Array (Option Value)} {oc_first_wrong kV_first_wrong dc_first_wrong pm_first_wrong cd_first_wrong ct_first_wrong : Value}
    {od_Schemeu__initu_ an_Schemeu__initu_ : Option Addr} {sl_Schemeu__initu_ : Array (Option Value)} {oc_Schemeu__initu_ dc_Schemeu__initu_ pm_Schemeu__initu_ cd_Schemeu__initu_ ct_Schemeu__initu_ : Value}
    {od_l_source an_l_source : Option Addr} {sl_l_source : Array (Option Value)} {oc_l_source kV_l_source dc_l_source pm_l_source cd_l_source ct_l_source : Value}
    {od_l_draw an_l_draw : Option Addr} {sl_l_draw : Array (Option Value)} {oc_l_draw kV_l_draw dc_l_draw pm_l_draw cd_l_draw ct_l_draw : Value}
    {od_l_pick an_l_pick : Option Addr} {sl_l_pick : Array (Option Value)} {oc_l_pick kV_l_pick dc_l_pick pm_l_pick cd_l_pick ct_l_pick : Value}
    {od_l_limit an_l_limit : Option Addr} {sl_l_limit : Array (Option Value)} {oc_l_limit kV_l_limit dc_l_limit pm_l_limit cd_l_limit ct_l_limit : Value}
    {od_l_parts an_l_parts : Option Addr} {sl_l_parts : Array (Option Value)} {oc_l_parts kV_l_parts dc_l_parts pm_l_parts cd_l_parts ct_l_parts : Value}
    {od_l_wrap an_l_wrap : Option Addr} {sl_l_wrap : Array (Option Value)} {oc_l_wrap kV_l_wrap dc_l_wrap pm_l_wrap cd_l_wrap ct_l_wrap : Value}
    {od_l_rule an_l_rule : Option Addr} {sl_l_rule : Array (Option Value)} {oc_l_rule kV_l_rule dc_l_rule pm_l_rule cd_l_rule ct_l_rule : Value}
    {od_l_scheme an_l_scheme : Option Addr} {sl_l_scheme : Array (Option Value)} {oc_l_scheme kV_l_scheme dc_l_scheme pm_l_scheme cd_l_scheme ct_l_scheme : Value}
    {od_l_modulus an_l_modulus : Option Addr} {sl_l_modulus : Array (Option Value)} {oc_l_modulus kV_l_modulus dc_l_modulus pm_l_modulus cd_l_modulus ct_l_modulus : Value}
    {od_l_slot an_l_slot : Option Addr} {sl_l_slot : Array (Option Value)} {oc_l_slot kV_l_slot dc_l_slot pm_l_slot cd_l_slot ct_l_slot : Value}
    {od_l_power an_l_power : Option Addr} {sl_l_power : Array (Option Value)} {oc_l_power kV_l_power dc_l_power pm_l_power cd_l_power ct_l_power : Value}
    {od_l_size an_l_size : Option Addr} {sl_l_size : Array (Option Value)} {oc_l_size kV_l_size dc_l_size pm_l_size cd_l_size ct_l_size : Value}
    {od_l_lesser an_l_lesser : Option Addr} {sl_l_lesser : Array (Option Value)} {oc_l_lesser kV_l_lesser dc_l_lesser pm_l_lesser cd_l_lesser ct_l_lesser : Value}
    {od_l_right an_l_right : Option Addr} {sl_l_right : Array (Option Value)} {oc_l_right kV_l_right dc_l_right pm_l_right cd_l_right ct_l_right : Value}
    {od_law an_law : Option Addr} {sl_law : Array (Option Value)} {oc_law kV_law dc_law pm_law cd_law ct_law : Value}
    {t_GREATEST_SIZE : Tok}
    {t_PART_NAMES : Addr}
    {t_PART_WORDS : Addr}
    {t_PART_WORDS_slot : Addr}
    {t_PART_WORDS_empty : Addr}
    {t_PART_WORDS_when : Addr}
    {t_MEASURES : Addr}
    {t_SIGNS : Addr}
    {t_PLAIN_FULLS : Addr}
    {t_GREATEST_SLOPE : Tok}
    {t_GREATEST_BASE : Tok}
    {t_GREATEST_WIDTH : Tok}
    {odq_PART_NAMES : Option Addr}
    {nq_PART_NAMES : Nat}
    {slq_PART_NAMES : Array (Option Value)}
    {tkq_PART_NAMES_0 tkq_PART_NAMES_1 tkq_PART_NAMES_2 tkq_PART_NAMES_3 tkq_PART_NAMES_4 : Tok}
    {es_PART_WORDS : Array DictEntry}
    {nd_PART_WORDS : Nat}
    {odq_PART_WORDS_slot : Option Addr}
    {nq_PART_WORDS_slot : Nat}
    {slq_PART_WORDS_slot : Array (Option Value)}
    {tkq_PART_WORDS_slot_0 tkq_PART_WORDS_slot_1 tkq_PART_WORDS_slot_2 : Tok}
    {odq_PART_WORDS_empty : Option Addr}
    {nq_PART_WORDS_empty : Nat}
    {slq_PART_WORDS_empty : Array (Option Value)}
    {tkq_PART_WORDS_empty_0 tkq_PART_WORDS_empty_1 tkq_PART_WORDS_empty_2 : Tok}
    {odq_PART_WORDS_when : Option Addr}
    {nq_PART_WORDS_when : Nat}
    {slq_PART_WORDS_when : Array (Option Value)}
    {tkq_PART_WORDS_when_0 tkq_PART_WORDS_when_1 tkq_PART_WORDS_when_2 : Tok}
    {odq_MEASURES : Option Addr}
    {nq_MEASURES : Nat}
    {slq_MEASURES : Array (Option Value)}
    {tkq_MEASURES_0 tkq_MEASURES_1 : Tok}
    {odq_SIGNS : Option Addr}
    {nq_SIGNS : Nat}
    {slq_SIGNS : Array (Option Value)}
    {tkq_SIGNS_0 tkq_SIGNS_1 : Tok}
    {odq_PLAIN_FULLS : Option Addr}
    {nq_PLAIN_FULLS : Nat}
    {slq_PLAIN_FULLS : Array (Option Value)}
    {tkq_PLAIN_FULLS_0 tkq_PLAIN_FULLS_1 : Tok}
    {kD_Schemeu__initu_ : Addr}
    {tkw_Schemeu__initu__when : Tok}
    {rs_Scheme_wrap : List Value}
    {rs_Scheme_slot : List Value}
    (h_n_abs : PySem.W.nsIn K mainGlobals "abs" = some none)
    (h_n_bool : PySem.W.nsIn K mainGlobals "bool" = some none)
    (h_n_int : PySem.W.nsIn K mainGlobals "int" = some none)
    (h_n_isinstance : PySem.W.nsIn K mainGlobals "isinstance" = some none)
    (h_n_len : PySem.W.nsIn K mainGlobals "len" = some none)
    (h_n_max : PySem.W.nsIn K mainGlobals "max" = some none)
    (h_n_min : PySem.W.nsIn K mainGlobals "min" = some none)
    (h_n_range : PySem.W.nsIn K mainGlobals "range" = some none)
    (h_n_str : PySem.W.nsIn K mainGlobals "str" = some none)
    (h_n_tuple : PySem.W.nsIn K mainGlobals "tuple" = some none)
    (h_m_GREATEST_SIZE : PySem.W.nsIn K mainGlobals "GREATEST_SIZE" = some (some (.int (1000000000000000000000000000000) t_GREATEST_SIZE)))
    (h_m_PART_NAMES : PySem.W.nsIn K mainGlobals "PART_NAMES" = some (some (.ref t_PART_NAMES)))
    (h_m_PART_WORDS : PySem.W.nsIn K mainGlobals "PART_WORDS" = some (some (.ref t_PART_WORDS)))
    (h_m_MEASURES : PySem.W.nsIn K mainGlobals "MEASURES" = some (some (.ref t_MEASURES)))
    (h_m_SIGNS : PySem.W.nsIn K mainGlobals "SIGNS" = some (some (.ref t_SIGNS)))
    (h_m_PLAIN_FULLS : PySem.W.nsIn K mainGlobals "PLAIN_FULLS" = some (some (.ref t_PLAIN_FULLS)))
    (h_m_GREATEST_SLOPE : PySem.W.nsIn K mainGlobals "GREATEST_SLOPE" = some (some (.int (4) t_GREATEST_SLOPE)))
    (h_m_GREATEST_BASE : PySem.W.nsIn K mainGlobals "GREATEST_BASE" = some (some (.int (20) t_GREATEST_BASE)))
    (h_m_GREATEST_WIDTH : PySem.W.nsIn K mainGlobals "GREATEST_WIDTH" = some (some (.int (100) t_GREATEST_WIDTH)))
    (h_m_Form : PySem.W.nsIn K mainGlobals "Form" = some (some (.ref c_Form)))
    (h_n_Form_slope : PySem.W.findIn K (.ref c_Form) "slope" = some none)
    (h_n_Form_base : PySem.W.findIn K (.ref c_Form) "base" = some none)
    (h_m_Scheme : PySem.W.nsIn K mainGlobals "Scheme" = some (some (.ref c_Scheme)))
    (h_n_Scheme_parts : PySem.W.findIn K (.ref c_Scheme) "_parts" = some none)
    (h_m_is_whole : PySem.W.nsIn K mainGlobals "is_whole" = some (some (.ref f_is_whole)))
    (h_m_is_whole_from : PySem.W.nsIn K mainGlobals "is_whole_from" = some (some (.ref f_is_whole_from)))
    (h_m_is_word_of : PySem.W.nsIn K mainGlobals "is_word_of" = some (some (.ref f_is_word_of)))
    (h_m_is_size : PySem.W.nsIn K mainGlobals "is_size" = some (some (.ref f_is_size)))
    (h_m_check_size : PySem.W.nsIn K mainGlobals "check_size" = some (some (.ref f_check_size)))
    (h_m_form_at : PySem.W.nsIn K mainGlobals "form_at" = some (some (.ref f_form_at)))
    (h_m_mask_of : PySem.W.nsIn K mainGlobals "mask_of" = some (some (.ref f_mask_of)))
    (h_m_steps_to_bits : PySem.W.nsIn K mainGlobals "steps_to_bits" = some (some (.ref f_steps_to_bits)))
    (h_m_mask_gaps : PySem.W.nsIn K mainGlobals "mask_gaps" = some (some (.ref f_mask_gaps)))
    (h_m_off_spans : PySem.W.nsIn K mainGlobals "off_spans" = some (some (.ref f_off_spans)))
    (h_m_rest_spans : PySem.W.nsIn K mainGlobals "rest_spans" = some (some (.ref f_rest_spans)))
    (h_m_steps_to_span : PySem.W.nsIn K mainGlobals "steps_to_span" = some (some (.ref f_steps_to_span)))
    (h_m_gaps_from : PySem.W.nsIn K mainGlobals "gaps_from" = some (some (.ref f_gaps_from)))
    (h_m_wrap_at : PySem.W.nsIn K mainGlobals "wrap_at" = some (some (.ref f_wrap_at)))
    (h_m_modulus_of : PySem.W.nsIn K mainGlobals "modulus_of" = some (some (.ref f_modulus_of)))
    (h_m_check_counter : PySem.W.nsIn K mainGlobals "check_counter" = some (some (.ref f_check_counter)))
    (h_m_slot_at : PySem.W.nsIn K mainGlobals "slot_at" = some (some (.ref f_slot_at)))
    (h_m_gap_of : PySem.W.nsIn K mainGlobals "gap_of" = some (some (.ref f_gap_of)))
    (h_m_is_small_form : PySem.W.nsIn K mainGlobals "is_small_form" = some (some (.ref f_is_small_form)))
    (h_m_is_full : PySem.W.nsIn K mainGlobals "is_full" = some (some (.ref f_is_full)))
    (h_m_is_wrap : PySem.W.nsIn K mainGlobals "is_wrap" = some (some (.ref f_is_wrap)))
    (h_m_is_part : PySem.W.nsIn K mainGlobals "is_part" = some (some (.ref f_is_part)))
    (h_m_first_wrong : PySem.W.nsIn K mainGlobals "first_wrong" = some (some (.ref f_first_wrong)))
    (h_m_l_source : PySem.W.nsIn K mainGlobals "_law_source" = some (some (.ref f_l_source)))
    (h_m_l_draw : PySem.W.nsIn K mainGlobals "_law_draw" = some (some (.ref f_l_draw)))
    (h_m_l_pick : PySem.W.nsIn K mainGlobals "_law_pick" = some (some (.ref f_l_pick)))
    (h_m_l_limit : PySem.W.nsIn K mainGlobals "_law_limit" = some (some (.ref f_l_limit)))
    (h_m_l_parts : PySem.W.nsIn K mainGlobals "_law_parts" = some (some (.ref f_l_parts)))
    (h_m_l_wrap : PySem.W.nsIn K mainGlobals "_law_wrap" = some (some (.ref f_l_wrap)))
    (h_m_l_rule : PySem.W.nsIn K mainGlobals "_law_rule" = some (some (.ref f_l_rule)))
    (h_m_l_scheme : PySem.W.nsIn K mainGlobals "_law_scheme" = some (some (.ref f_l_scheme)))
    (h_m_l_modulus : PySem.W.nsIn K mainGlobals "_law_modulus" = some (some (.ref f_l_modulus)))
    (h_m_l_slot : PySem.W.nsIn K mainGlobals "_law_slot" = some (some (.ref f_l_slot)))
    (h_m_l_power : PySem.W.nsIn K mainGlobals "_law_power" = some (some (.ref f_l_power)))
    (h_m_l_size : PySem.W.nsIn K mainGlobals "_law_size" = some (some (.ref f_l_size)))
    (h_m_l_lesser : PySem.W.nsIn K mainGlobals "_law_lesser" = some (some (.ref f_l_lesser)))
    (h_m_l_right : PySem.W.nsIn K mainGlobals "_law_right" = some (some (.ref f_l_right)))
    (h_m_law : PySem.W.nsIn K mainGlobals "law" = some (some (.ref f_law)))
    (h_in_Form : PySem.W.findIn K (.ref c_Form) "__init__" = some (some (.ref f_Formu__initu_)))
    (h_in_Scheme : PySem.W.findIn K (.ref c_Scheme) "__init__" = some (some (.ref f_Schemeu__initu_)))
    (h_a1_Scheme_wrap : PySem.W.findIn K (.ref c_Scheme) "wrap" = some (some (.ref p_Scheme_wrap)))
    (h_a1_Scheme_slot : PySem.W.findIn K (.ref c_Scheme) "slot" = some (some (.ref p_Scheme_slot)))
    (h_ns_PART_WORDS_slot : PySem.W.nsIn K t_PART_WORDS "slot" = some (some (.ref t_PART_WORDS_slot)))
    (h_ns_PART_WORDS_empty : PySem.W.nsIn K t_PART_WORDS "empty" = some (some (.ref t_PART_WORDS_empty)))
    (h_ns_PART_WORDS_when : PySem.W.nsIn K t_PART_WORDS "when" = some (some (.ref t_PART_WORDS_when)))
    (h_a2_Scheme_wrap : PySem.W.recIn K p_Scheme_wrap "property" = some (.ref f_Scheme_wrap :: rs_Scheme_wrap))
    (h_a2_Scheme_slot : PySem.W.recIn K p_Scheme_slot "property" = some (.ref f_Scheme_slot :: rs_Scheme_slot))
    (h_lD_PART_WORDS : K.lookup t_PART_WORDS = some ⟨.type "dict", none, .dict es_PART_WORDS nd_PART_WORDS, #[]⟩)
    (h_l_is_whole : K.lookup f_is_whole = some ⟨oc_is_whole, od_is_whole, .func (PySem.W.fnOf "is_whole" "is_whole" (defArgs s_is_whole) (defBody s_is_whole) (defScope s_is_whole) .none kV_is_whole dc_is_whole pm_is_whole an_is_whole cd_is_whole ct_is_whole), sl_is_whole⟩)
    (h_l_is_whole_from : K.lookup f_is_whole_from = some ⟨oc_is_whole_from, od_is_whole_from, .func (PySem.W.fnOf "is_whole_from" "is_whole_from" (defArgs s_is_whole_from) (defBody s_is_whole_from) (defScope s_is_whole_from) .none kV_is_whole_from dc_is_whole_from pm_is_whole_from an_is_whole_from cd_is_whole_from ct_is_whole_from), sl_is_whole_from⟩)
    (h_l_is_word_of : K.lookup f_is_word_of = some ⟨oc_is_word_of, od_is_word_of, .func (PySem.W.fnOf "is_word_of" "is_word_of" (defArgs s_is_word_of) (defBody s_is_word_of) (defScope s_is_word_of) .none kV_is_word_of dc_is_word_of pm_is_word_of an_is_word_of cd_is_word_of ct_is_word_of), sl_is_word_of⟩)
    (h_l_is_size : K.lookup f_is_size = some ⟨oc_is_size, od_is_size, .func (PySem.W.fnOf "is_size" "is_size" (defArgs s_is_size) (defBody s_is_size) (defScope s_is_size) .none kV_is_size dc_is_size pm_is_size an_is_size cd_is_size ct_is_size), sl_is_size⟩)
    (h_l_check_size : K.lookup f_check_size = some ⟨oc_check_size, od_check_size, .func (PySem.W.fnOf "check_size" "check_size" (defArgs s_check_size) (defBody s_check_size) (defScope s_check_size) .none kV_check_size dc_check_size pm_check_size an_check_size cd_check_size ct_check_size), sl_check_size⟩)
    (h_l_Formu__initu_ : K.lookup f_Formu__initu_ = some ⟨oc_Formu__initu_, od_Formu__initu_, .func (PySem.W.fnOf "__init__" "Form.__init__" (defArgs s_Formu__initu_) (defBody s_Formu__initu_) (defScope s_Formu__initu_) .none kV_Formu__initu_ dc_Formu__initu_ pm_Formu__initu_ an_Formu__initu_ cd_Formu__initu_ ct_Formu__initu_), sl_Formu__initu_⟩)
    (h_l_form_at : K.lookup f_form_at = some ⟨oc_form_at, od_form_at, .func (PySem.W.fnOf "form_at" "form_at" (defArgs s_form_at) (defBody s_form_at) (defScope s_form_at) .none kV_form_at dc_form_at pm_form_at an_form_at cd_form_at ct_form_at), sl_form_at⟩)
    (h_l_mask_of : K.lookup f_mask_of = some ⟨oc_mask_of, od_mask_of, .func (PySem.W.fnOf "mask_of" "mask_of" (defArgs s_mask_of) (defBody s_mask_of) (defScope s_mask_of) .none kV_mask_of dc_mask_of pm_mask_of an_mask_of cd_mask_of ct_mask_of), sl_mask_of⟩)
    (h_l_steps_to_bits : K.lookup f_steps_to_bits = some ⟨oc_steps_to_bits, od_steps_to_bits, .func (PySem.W.fnOf "steps_to_bits" "steps_to_bits" (defArgs s_steps_to_bits) (defBody s_steps_to_bits) (defScope s_steps_to_bits) .none kV_steps_to_bits dc_steps_to_bits pm_steps_to_bits an_steps_to_bits cd_steps_to_bits ct_steps_to_bits), sl_steps_to_bits⟩)
    (h_l_mask_gaps : K.lookup f_mask_gaps = some ⟨oc_mask_gaps, od_mask_gaps, .func (PySem.W.fnOf "mask_gaps" "mask_gaps" (defArgs s_mask_gaps) (defBody s_mask_gaps) (defScope s_mask_gaps) .none kV_mask_gaps dc_mask_gaps pm_mask_gaps an_mask_gaps cd_mask_gaps ct_mask_gaps), sl_mask_gaps⟩)
    (h_l_off_spans : K.lookup f_off_spans = some ⟨oc_off_spans, od_off_spans, .func (PySem.W.fnOf "off_spans" "off_spans" (defArgs s_off_spans) (defBody s_off_spans) (defScope s_off_spans) .none kV_off_spans dc_off_spans pm_off_spans an_off_spans cd_off_spans ct_off_spans), sl_off_spans⟩)
    (h_l_rest_spans : K.lookup f_rest_spans = some ⟨oc_rest_spans, od_rest_spans, .func (PySem.W.fnOf "rest_spans" "rest_spans" (defArgs s_rest_spans) (defBody s_rest_spans) (defScope s_rest_spans) .none kV_rest_spans dc_rest_spans pm_rest_spans an_rest_spans cd_rest_spans ct_rest_spans), sl_rest_spans⟩)
    (h_l_steps_to_span : K.lookup f_steps_to_span = some ⟨oc_steps_to_span, od_steps_to_span, .func (PySem.W.fnOf "steps_to_span" "steps_to_span" (defArgs s_steps_to_span) (defBody s_steps_to_span) (defScope s_steps_to_span) .none kV_steps_to_span dc_steps_to_span pm_steps_to_span an_steps_to_span cd_steps_to_span ct_steps_to_span), sl_steps_to_span⟩)
    (h_l_gaps_from : K.lookup f_gaps_from = some ⟨oc_gaps_from, od_gaps_from, .func (PySem.W.fnOf "gaps_from" "gaps_from" (defArgs s_gaps_from) (defBody s_gaps_from) (defScope s_gaps_from) .none kV_gaps_from dc_gaps_from pm_gaps_from an_gaps_from cd_gaps_from ct_gaps_from), sl_gaps_from⟩)
    (h_l_Scheme_wrap : K.lookup f_Scheme_wrap = some ⟨oc_Scheme_wrap, od_Scheme_wrap, .func (PySem.W.fnOf "wrap" "Scheme.wrap" (defArgs s_Scheme_wrap) (defBody s_Scheme_wrap) (defScope s_Scheme_wrap) .none kV_Scheme_wrap dc_Scheme_wrap pm_Scheme_wrap an_Scheme_wrap cd_Scheme_wrap ct_Scheme_wrap), sl_Scheme_wrap⟩)
    (h_l_wrap_at : K.lookup f_wrap_at = some ⟨oc_wrap_at, od_wrap_at, .func (PySem.W.fnOf "wrap_at" "wrap_at" (defArgs s_wrap_at) (defBody s_wrap_at) (defScope s_wrap_at) .none kV_wrap_at dc_wrap_at pm_wrap_at an_wrap_at cd_wrap_at ct_wrap_at), sl_wrap_at⟩)
    (h_l_modulus_of : K.lookup f_modulus_of = some ⟨oc_modulus_of, od_modulus_of, .func (PySem.W.fnOf "modulus_of" "modulus_of" (defArgs s_modulus_of) (defBody s_modulus_of) (defScope s_modulus_of) .none kV_modulus_of dc_modulus_of pm_modulus_of an_modulus_of cd_modulus_of ct_modulus_of), sl_modulus_of⟩)
    (h_l_Scheme_slot : K.lookup f_Scheme_slot = some ⟨oc_Scheme_slot, od_Scheme_slot, .func (PySem.W.fnOf "slot" "Scheme.slot" (defArgs s_Scheme_slot) (defBody s_Scheme_slot) (defScope s_Scheme_slot) .none kV_Scheme_slot dc_Scheme_slot pm_Scheme_slot an_Scheme_slot cd_Scheme_slot ct_Scheme_slot), sl_Scheme_slot⟩)
    (h_l_check_counter : K.lookup f_check_counter = some ⟨oc_check_counter, od_check_counter, .func (PySem.W.fnOf "check_counter" "check_counter" (defArgs s_check_counter) (defBody s_check_counter) (defScope s_check_counter) .none kV_check_counter dc_check_counter pm_check_counter an_check_counter cd_check_counter ct_check_counter), sl_check_counter⟩)
    (h_l_slot_at : K.lookup f_slot_at = some ⟨oc_slot_at, od_slot_at, .func (PySem.W.fnOf "slot_at" "slot_at" (defArgs s_slot_at) (defBody s_slot_at) (defScope s_slot_at) .none kV_slot_at dc_slot_at pm_slot_at an_slot_at cd_slot_at ct_slot_at), sl_slot_at⟩)
    (h_l_gap_of : K.lookup f_gap_of = some ⟨oc_gap_of, od_gap_of, .func (PySem.W.fnOf "gap_of" "gap_of" (defArgs s_gap_of) (defBody s_gap_of) (defScope s_gap_of) .none kV_gap_of dc_gap_of pm_gap_of an_gap_of cd_gap_of ct_gap_of), sl_gap_of⟩)
    (h_l_is_small_form : K.lookup f_is_small_form = some ⟨oc_is_small_form, od_is_small_form, .func (PySem.W.fnOf "is_small_form" "is_small_form" (defArgs s_is_small_form) (defBody s_is_small_form) (defScope s_is_small_form) .none kV_is_small_form dc_is_small_form pm_is_small_form an_is_small_form cd_is_small_form ct_is_small_form), sl_is_small_form⟩)
    (h_l_is_full : K.lookup f_is_full = some ⟨oc_is_full, od_is_full, .func (PySem.W.fnOf "is_full" "is_full" (defArgs s_is_full) (defBody s_is_full) (defScope s_is_full) .none kV_is_full dc_is_full pm_is_full an_is_full cd_is_full ct_is_full), sl_is_full⟩)
    (h_l_is_wrap : K.lookup f_is_wrap = some ⟨oc_is_wrap, od_is_wrap, .func (PySem.W.fnOf "is_wrap" "is_wrap" (defArgs s_is_wrap) (defBody s_is_wrap) (defScope s_is_wrap) .none kV_is_wrap dc_is_wrap pm_is_wrap an_is_wrap cd_is_wrap ct_is_wrap), sl_is_wrap⟩)
    (h_l_is_part : K.lookup f_is_part = some ⟨oc_is_part, od_is_part, .func (PySem.W.fnOf "is_part" "is_part" (defArgs s_is_part) (defBody s_is_part) (defScope s_is_part) .none kV_is_part dc_is_part pm_is_part an_is_part cd_is_part ct_is_part), sl_is_part⟩)
    (h_l_first_wrong : K.lookup f_first_wrong = some ⟨oc_first_wrong, od_first_wrong, .func (PySem.W.fnOf "first_wrong" "first_wrong" (defArgs s_first_wrong) (defBody s_first_wrong) (defScope s_first_wrong) .none kV_first_wrong dc_first_wrong pm_first_wrong an_first_wrong cd_first_wrong ct_first_wrong), sl_first_wrong⟩)
    (h_l_Schemeu__initu_ : K.lookup f_Schemeu__initu_ = some ⟨oc_Schemeu__initu_, od_Schemeu__initu_, .func (PySem.W.fnOf "__init__" "Scheme.__init__" (defArgs s_Schemeu__initu_) (defBody s_Schemeu__initu_) (defScope s_Schemeu__initu_) .none (.ref kD_Schemeu__initu_) dc_Schemeu__initu_ pm_Schemeu__initu_ an_Schemeu__initu_ cd_Schemeu__initu_ ct_Schemeu__initu_), sl_Schemeu__initu_⟩)
    (h_kd_Schemeu__initu__when : PySem.W.nsIn K kD_Schemeu__initu_ "when" = some (some (.str "refuse" tkw_Schemeu__initu__when)))
    (h_l_l_source : K.lookup f_l_source = some ⟨oc_l_source, od_l_source, .func (PySem.W.fnOf "_law_source" "_law_source" (defArgs s_l_source) (defBody s_l_source) (defScope s_l_source) .none kV_l_source dc_l_source pm_l_source an_l_source cd_l_source ct_l_source), sl_l_source⟩)
    (h_l_l_draw : K.lookup f_l_draw = some ⟨oc_l_draw, od_l_draw, .func (PySem.W.fnOf "_law_draw" "_law_draw" (defArgs s_l_draw) (defBody s_l_draw) (defScope s_l_draw) .none kV_l_draw dc_l_draw pm_l_draw an_l_draw cd_l_draw ct_l_draw), sl_l_draw⟩)
    (h_l_l_pick : K.lookup f_l_pick = some ⟨oc_l_pick, od_l_pick, .func (PySem.W.fnOf "_law_pick" "_law_pick" (defArgs s_l_pick) (defBody s_l_pick) (defScope s_l_pick) .none kV_l_pick dc_l_pick pm_l_pick an_l_pick cd_l_pick ct_l_pick), sl_l_pick⟩)
    (h_l_l_limit : K.lookup f_l_limit = some ⟨oc_l_limit, od_l_limit, .func (PySem.W.fnOf "_law_limit" "_law_limit" (defArgs s_l_limit) (defBody s_l_limit) (defScope s_l_limit) .none kV_l_limit dc_l_limit pm_l_limit an_l_limit cd_l_limit ct_l_limit), sl_l_limit⟩)
    (h_l_l_parts : K.lookup f_l_parts = some ⟨oc_l_parts, od_l_parts, .func (PySem.W.fnOf "_law_parts" "_law_parts" (defArgs s_l_parts) (defBody s_l_parts) (defScope s_l_parts) .none kV_l_parts dc_l_parts pm_l_parts an_l_parts cd_l_parts ct_l_parts), sl_l_parts⟩)
    (h_l_l_wrap : K.lookup f_l_wrap = some ⟨oc_l_wrap, od_l_wrap, .func (PySem.W.fnOf "_law_wrap" "_law_wrap" (defArgs s_l_wrap) (defBody s_l_wrap) (defScope s_l_wrap) .none kV_l_wrap dc_l_wrap pm_l_wrap an_l_wrap cd_l_wrap ct_l_wrap), sl_l_wrap⟩)
    (h_l_l_rule : K.lookup f_l_rule = some ⟨oc_l_rule, od_l_rule, .func (PySem.W.fnOf "_law_rule" "_law_rule" (defArgs s_l_rule) (defBody s_l_rule) (defScope s_l_rule) .none kV_l_rule dc_l_rule pm_l_rule an_l_rule cd_l_rule ct_l_rule), sl_l_rule⟩)
    (h_l_l_scheme : K.lookup f_l_scheme = some ⟨oc_l_scheme, od_l_scheme, .func (PySem.W.fnOf "_law_scheme" "_law_scheme" (defArgs s_l_scheme) (defBody s_l_scheme) (defScope s_l_scheme) .none kV_l_scheme dc_l_scheme pm_l_scheme an_l_scheme cd_l_scheme ct_l_scheme), sl_l_scheme⟩)
    (h_l_l_modulus : K.lookup f_l_modulus = some ⟨oc_l_modulus, od_l_modulus, .func (PySem.W.fnOf "_law_modulus" "_law_modulus" (defArgs s_l_modulus) (defBody s_l_modulus) (defScope s_l_modulus) .none kV_l_modulus dc_l_modulus pm_l_modulus an_l_modulus cd_l_modulus ct_l_modulus), sl_l_modulus⟩)
    (h_l_l_slot : K.lookup f_l_slot = some ⟨oc_l_slot, od_l_slot, .func (PySem.W.fnOf "_law_slot" "_law_slot" (defArgs s_l_slot) (defBody s_l_slot) (defScope s_l_slot) .none kV_l_slot dc_l_slot pm_l_slot an_l_slot cd_l_slot ct_l_slot), sl_l_slot⟩)
    (h_l_l_power : K.lookup f_l_power = some ⟨oc_l_power, od_l_power, .func (PySem.W.fnOf "_law_power" "_law_power" (defArgs s_l_power) (defBody s_l_power) (defScope s_l_power) .none kV_l_power dc_l_power pm_l_power an_l_power cd_l_power ct_l_power), sl_l_power⟩)
    (h_l_l_size : K.lookup f_l_size = some ⟨oc_l_size, od_l_size, .func (PySem.W.fnOf "_law_size" "_law_size" (defArgs s_l_size) (defBody s_l_size) (defScope s_l_size) .none kV_l_size dc_l_size pm_l_size an_l_size cd_l_size ct_l_size), sl_l_size⟩)
    (h_l_l_lesser : K.lookup f_l_lesser = some ⟨oc_l_lesser, od_l_lesser, .func (PySem.W.fnOf "_law_lesser" "_law_lesser" (defArgs s_l_lesser) (defBody s_l_lesser) (defScope s_l_lesser) .none kV_l_lesser dc_l_lesser pm_l_lesser an_l_lesser cd_l_lesser ct_l_lesser), sl_l_lesser⟩)
    (h_l_l_right : K.lookup f_l_right = some ⟨oc_l_right, od_l_right, .func (PySem.W.fnOf "_law_right" "_law_right" (defArgs s_l_right) (defBody s_l_right) (defScope s_l_right) .none kV_l_right dc_l_right pm_l_right an_l_right cd_l_right ct_l_right), sl_l_right⟩)
    (h_l_law : K.lookup f_law = some ⟨oc_law, od_law, .func (PySem.W.fnOf "law" "law" (defArgs s_law) (defBody s_law) (defScope s_law) .none kV_law dc_law pm_law an_law cd_law ct_law), sl_law⟩)
    (h_lT_q_PART_NAMES : K.lookup t_PART_NAMES = some ⟨.type "tuple", odq_PART_NAMES, .seq [.str "wrap" tkq_PART_NAMES_0, .str "slot" tkq_PART_NAMES_1, .str "empty" tkq_PART_NAMES_2, .str "full" tkq_PART_NAMES_3, .str "when" tkq_PART_NAMES_4].toArray nq_PART_NAMES, slq_PART_NAMES⟩)
    (h_lT_q_PART_WORDS_slot : K.lookup t_PART_WORDS_slot = some ⟨.type "tuple", odq_PART_WORDS_slot, .seq [.str "rest" tkq_PART_WORDS_slot_0, .str "off" tkq_PART_WORDS_slot_1, .str "mask" tkq_PART_WORDS_slot_2].toArray nq_PART_WORDS_slot, slq_PART_WORDS_slot⟩)
    (h_lT_q_PART_WORDS_empty : K.lookup t_PART_WORDS_empty = some ⟨.type "tuple", odq_PART_WORDS_empty, .seq [.str "same" tkq_PART_WORDS_empty_0, .str "count" tkq_PART_WORDS_empty_1, .str "note" tkq_PART_WORDS_empty_2].toArray nq_PART_WORDS_empty, slq_PART_WORDS_empty⟩)
    (h_lT_q_PART_WORDS_when : K.lookup t_PART_WORDS_when = some ⟨.type "tuple", odq_PART_WORDS_when, .seq [.str "refuse" tkq_PART_WORDS_when_0, .str "drop" tkq_PART_WORDS_when_1, .str "over" tkq_PART_WORDS_when_2].toArray nq_PART_WORDS_when, slq_PART_WORDS_when⟩)
    (h_lT_q_MEASURES : K.lookup t_MEASURES = some ⟨.type "tuple", odq_MEASURES, .seq [.str "diff" tkq_MEASURES_0, .str "count" tkq_MEASURES_1].toArray nq_MEASURES, slq_MEASURES⟩)
    (h_lT_q_SIGNS : K.lookup t_SIGNS = some ⟨.type "tuple", odq_SIGNS, .seq [.str "=" tkq_SIGNS_0, .str ">=" tkq_SIGNS_1].toArray nq_SIGNS, slq_SIGNS⟩)
    (h_lT_q_PLAIN_FULLS : K.lookup t_PLAIN_FULLS = some ⟨.type "tuple", odq_PLAIN_FULLS, .seq [.str "next" tkq_PLAIN_FULLS_0, .str "note" tkq_PLAIN_FULLS_1].toArray nq_PLAIN_FULLS, slq_PLAIN_FULLS⟩)
    (h_zk_PART_WORDS : PySem.W.KeysLit w.params es_PART_WORDS.toList)
    (h_pg_Form : PySem.W.plainGet K c_Form Str.empty = true)
    (h_hd_Form : PySem.W.hasDictIn K c_Form = true)
    (h_po_Form : PySem.W.plainOver K c_Form = true)
    (h_sa_Form : PySem.W.findIn K (.ref c_Form) "__setattr__" = some (some (.builtin "object.__setattr__")))
    (h_mk_Form : PySem.W.makesIn K c_Form = true)
    (h_ii_Form : PySem.W.isFn K (.ref f_Formu__initu_) = true)
    (h_kp_Form : PySem.W.keepIn K (.ref c_Form) = true)
    (h_ha_Form : PySem.W.findIn K (.ref c_Form) "__class__" = some (some (.builtin "object.__class__")))
    (h_mo_Form : PySem.W.mroIn K c_Form (.type "object") = some true)
    (h_hn_Form : PySem.W.specialIn K (.builtin "object.__class__") "__get__" = some (some (.builtin "getset_descriptor.__get__")))
    (h_htk_Form : PySem.W.takesIn K (.builtin "object.__class__") = some true)
    (h_kt_Form_Form : PySem.W.kitOne K (.ref c_Form) (.ref c_Form) = some true)
    (h_kt_int_Form : PySem.W.kitOne K (.type "int") (.ref c_Form) = some false)
    (h_pg_Scheme : PySem.W.plainGet K c_Scheme Str.empty = true)
    (h_hd_Scheme : PySem.W.hasDictIn K c_Scheme = true)
    (h_po_Scheme : PySem.W.plainOver K c_Scheme = true)
    (h_sa_Scheme : PySem.W.findIn K (.ref c_Scheme) "__setattr__" = some (some (.builtin "object.__setattr__")))
    (h_mk_Scheme : PySem.W.makesIn K c_Scheme = true)
    (h_ii_Scheme : PySem.W.isFn K (.ref f_Schemeu__initu_) = true)
    (h_kp_Scheme : PySem.W.keepIn K (.ref c_Scheme) = true)
    (h_c_is_whole : PySem.W.codeIn K cd_is_whole "is_whole" = true)
    (h_k_is_whole : PySem.W.keepIn K (.ref f_is_whole) = true)
    (h_c_is_whole_from : PySem.W.codeIn K cd_is_whole_from "is_whole_from" = true)
    (h_k_is_whole_from : PySem.W.keepIn K (.ref f_is_whole_from) = true)
    (h_c_is_word_of : PySem.W.codeIn K cd_is_word_of "is_word_of" = true)
    (h_k_is_word_of : PySem.W.keepIn K (.ref f_is_word_of) = true)
    (h_c_is_size : PySem.W.codeIn K cd_is_size "is_size" = true)
    (h_k_is_size : PySem.W.keepIn K (.ref f_is_size) = true)
    (h_c_check_size : PySem.W.codeIn K cd_check_size "check_size" = true)
    (h_k_check_size : PySem.W.keepIn K (.ref f_check_size) = true)
    (h_c_Formu__initu_ : PySem.W.codeIn K cd_Formu__initu_ "Form.__init__" = true)
    (h_k_Formu__initu_ : PySem.W.keepIn K (.ref f_Formu__initu_) = true)
    (h_c_form_at : PySem.W.codeIn K cd_form_at "form_at" = true)
    (h_k_form_at : PySem.W.keepIn K (.ref f_form_at) = true)
    (h_c_mask_of : PySem.W.codeIn K cd_mask_of "mask_of" = true)
    (h_k_mask_of : PySem.W.keepIn K (.ref f_mask_of) = true)
    (h_c_steps_to_bits : PySem.W.codeIn K cd_steps_to_bits "steps_to_bits" = true)
    (h_k_steps_to_bits : PySem.W.keepIn K (.ref f_steps_to_bits) = true)
    (h_c_mask_gaps : PySem.W.codeIn K cd_mask_gaps "mask_gaps" = true)
    (h_k_mask_gaps : PySem.W.keepIn K (.ref f_mask_gaps) = true)
    (h_c_off_spans : PySem.W.codeIn K cd_off_spans "off_spans" = true)
    (h_k_off_spans : PySem.W.keepIn K (.ref f_off_spans) = true)
    (h_c_rest_spans : PySem.W.codeIn K cd_rest_spans "rest_spans" = true)
    (h_k_rest_spans : PySem.W.keepIn K (.ref f_rest_spans) = true)
    (h_c_steps_to_span : PySem.W.codeIn K cd_steps_to_span "steps_to_span" = true)
    (h_k_steps_to_span : PySem.W.keepIn K (.ref f_steps_to_span) = true)
    (h_c_gaps_from : PySem.W.codeIn K cd_gaps_from "gaps_from" = true)
    (h_k_gaps_from : PySem.W.keepIn K (.ref f_gaps_from) = true)
    (h_c_Scheme_wrap : PySem.W.codeIn K cd_Scheme_wrap "Scheme.wrap" = true)
    (h_k_Scheme_wrap : PySem.W.keepIn K (.ref f_Scheme_wrap) = true)
    (h_c_wrap_at : PySem.W.codeIn K cd_wrap_at "wrap_at" = true)
    (h_k_wrap_at : PySem.W.keepIn K (.ref f_wrap_at) = true)
    (h_c_modulus_of : PySem.W.codeIn K cd_modulus_of "modulus_of" = true)
    (h_k_modulus_of : PySem.W.keepIn K (.ref f_modulus_of) = true)
    (h_c_Scheme_slot : PySem.W.codeIn K cd_Scheme_slot "Scheme.slot" = true)
    (h_k_Scheme_slot : PySem.W.keepIn K (.ref f_Scheme_slot) = true)
    (h_c_check_counter : PySem.W.codeIn K cd_check_counter "check_counter" = true)
    (h_k_check_counter : PySem.W.keepIn K (.ref f_check_counter) = true)
    (h_c_slot_at : PySem.W.codeIn K cd_slot_at "slot_at" = true)
    (h_k_slot_at : PySem.W.keepIn K (.ref f_slot_at) = true)
    (h_c_gap_of : PySem.W.codeIn K cd_gap_of "gap_of" = true)
    (h_k_gap_of : PySem.W.keepIn K (.ref f_gap_of) = true)
    (h_c_is_small_form : PySem.W.codeIn K cd_is_small_form "is_small_form" = true)
    (h_k_is_small_form : PySem.W.keepIn K (.ref f_is_small_form) = true)
    (h_c_is_full : PySem.W.codeIn K cd_is_full "is_full" = true)
    (h_k_is_full : PySem.W.keepIn K (.ref f_is_full) = true)
    (h_c_is_wrap : PySem.W.codeIn K cd_is_wrap "is_wrap" = true)
    (h_k_is_wrap : PySem.W.keepIn K (.ref f_is_wrap) = true)
    (h_c_is_part : PySem.W.codeIn K cd_is_part "is_part" = true)
    (h_k_is_part : PySem.W.keepIn K (.ref f_is_part) = true)
    (h_c_first_wrong : PySem.W.codeIn K cd_first_wrong "first_wrong" = true)
    (h_k_first_wrong : PySem.W.keepIn K (.ref f_first_wrong) = true)
    (h_c_Schemeu__initu_ : PySem.W.codeIn K cd_Schemeu__initu_ "Scheme.__init__" = true)
    (h_k_Schemeu__initu_ : PySem.W.keepIn K (.ref f_Schemeu__initu_) = true)
    (h_c_l_source : PySem.W.codeIn K cd_l_source "_law_source" = true)
    (h_k_l_source : PySem.W.keepIn K (.ref f_l_source) = true)
    (h_c_l_draw : PySem.W.codeIn K cd_l_draw "_law_draw" = true)
    (h_k_l_draw : PySem.W.keepIn K (.ref f_l_draw) = true)
    (h_c_l_pick : PySem.W.codeIn K cd_l_pick "_law_pick" = true)
    (h_k_l_pick : PySem.W.keepIn K (.ref f_l_pick) = true)
    (h_c_l_limit : PySem.W.codeIn K cd_l_limit "_law_limit" = true)
    (h_k_l_limit : PySem.W.keepIn K (.ref f_l_limit) = true)
    (h_c_l_parts : PySem.W.codeIn K cd_l_parts "_law_parts" = true)
    (h_k_l_parts : PySem.W.keepIn K (.ref f_l_parts) = true)
    (h_c_l_wrap : PySem.W.codeIn K cd_l_wrap "_law_wrap" = true)
    (h_k_l_wrap : PySem.W.keepIn K (.ref f_l_wrap) = true)
    (h_c_l_rule : PySem.W.codeIn K cd_l_rule "_law_rule" = true)
    (h_k_l_rule : PySem.W.keepIn K (.ref f_l_rule) = true)
    (h_c_l_scheme : PySem.W.codeIn K cd_l_scheme "_law_scheme" = true)
    (h_k_l_scheme : PySem.W.keepIn K (.ref f_l_scheme) = true)
    (h_c_l_modulus : PySem.W.codeIn K cd_l_modulus "_law_modulus" = true)
    (h_k_l_modulus : PySem.W.keepIn K (.ref f_l_modulus) = true)
    (h_c_l_slot : PySem.W.codeIn K cd_l_slot "_law_slot" = true)
    (h_k_l_slot : PySem.W.keepIn K (.ref f_l_slot) = true)
    (h_c_l_power : PySem.W.codeIn K cd_l_power "_law_power" = true)
    (h_k_l_power : PySem.W.keepIn K (.ref f_l_power) = true)
    (h_c_l_size : PySem.W.codeIn K cd_l_size "_law_size" = true)
    (h_k_l_size : PySem.W.keepIn K (.ref f_l_size) = true)
    (h_c_l_lesser : PySem.W.codeIn K cd_l_lesser "_law_lesser" = true)
    (h_k_l_lesser : PySem.W.keepIn K (.ref f_l_lesser) = true)
    (h_c_l_right : PySem.W.codeIn K cd_l_right "_law_right" = true)
    (h_k_l_right : PySem.W.keepIn K (.ref f_l_right) = true)
    (h_c_law : PySem.W.codeIn K cd_law "law" = true)
    (h_k_law : PySem.W.keepIn K (.ref f_law) = true)
    (h_pg_Scheme_wrap : PySem.W.specialIn K (.ref p_Scheme_wrap) "__get__" = some (some (.builtin "property.__get__")))
    (h_pt_Scheme_wrap : PySem.W.takesIn K (.ref p_Scheme_wrap) = some true)
    (h_pg_Scheme_slot : PySem.W.specialIn K (.ref p_Scheme_slot) "__get__" = some (some (.builtin "property.__get__")))
    (h_pt_Scheme_slot : PySem.W.takesIn K (.ref p_Scheme_slot) = some true)
    (h_nf_Form_Form : PySem.W.notFirst K c_Form (.ref c_Form) = true)
    (h_nf_int_Form : PySem.W.notFirst K c_Form (.type "int") = true)
    : ∃ fd : FuncData, (∀ (s : Shared) (v : Value), BindsTo s fd ⟨[v], []⟩ [("_law_script", v)]) ∧ ∀ base : Heap, K.In base → base.Ns mainGlobals mg → FnOk l.prog w K mg base CX0 9 fa fd ["_law_script"] (sp_law K) := by
  have e := hfa.symm.trans (PySem.W.mg_of X G h_m_law)
  cases e
  have T : Txt w K mg ⟨f_is_whole, (PySem.W.fnOf "is_whole" "is_whole" (defArgs s_is_whole) (defBody s_is_whole) (defScope s_is_whole) .none kV_is_whole dc_is_whole pm_is_whole an_is_whole cd_is_whole ct_is_whole), f_is_whole_from, (PySem.W.fnOf "is_whole_from" "is_whole_from" (defArgs s_is_whole_from) (defBody s_is_whole_from) (defScope s_is_whole_from) .none kV_is_whole_from dc_is_whole_from pm_is_whole_from an_is_whole_from cd_is_whole_from ct_is_whole_from), f_is_word_of, (PySem.W.fnOf "is_word_of" "is_word_of" (defArgs s_is_word_of) (defBody s_is_word_of) (defScope s_is_word_of) .none kV_is_word_of dc_is_word_of pm_is_word_of an_is_word_of cd_is_word_of ct_is_word_of), f_is_size, (PySem.W.fnOf "is_size" "is_size" (defArgs s_is_size) (defBody s_is_size) (defScope s_is_size) .none kV_is_size dc_is_size pm_is_size an_is_size cd_is_size ct_is_size), f_check_size, (PySem.W.fnOf "check_size" "check_size" (defArgs s_check_size) (defBody s_check_size) (defScope s_check_size) .none kV_check_size dc_check_size pm_check_size an_check_size cd_check_size ct_check_size), f_Formu__initu_, (PySem.W.fnOf "__init__" "Form.__init__" (defArgs s_Formu__initu_) (defBody s_Formu__initu_) (defScope s_Formu__initu_) .none kV_Formu__initu_ dc_Formu__initu_ pm_Formu__initu_ an_Formu__initu_ cd_Formu__initu_ ct_Formu__initu_), f_form_at, (PySem.W.fnOf "form_at" "form_at" (defArgs s_form_at) (defBody s_form_at) (defScope s_form_at) .none kV_form_at dc_form_at pm_form_at an_form_at cd_form_at ct_form_at), f_mask_of, (PySem.W.fnOf "mask_of" "mask_of" (defArgs s_mask_of) (defBody s_mask_of) (defScope s_mask_of) .none kV_mask_of dc_mask_of pm_mask_of an_mask_of cd_mask_of ct_mask_of), f_steps_to_bits, (PySem.W.fnOf "steps_to_bits" "steps_to_bits" (defArgs s_steps_to_bits) (defBody s_steps_to_bits) (defScope s_steps_to_bits) .none kV_steps_to_bits dc_steps_to_bits pm_steps_to_bits an_steps_to_bits cd_steps_to_bits ct_steps_to_bits), f_mask_gaps, (PySem.W.fnOf "mask_gaps" "mask_gaps" (defArgs s_mask_gaps) (defBody s_mask_gaps) (defScope s_mask_gaps) .none kV_mask_gaps dc_mask_gaps pm_mask_gaps an_mask_gaps cd_mask_gaps ct_mask_gaps), f_off_spans, (PySem.W.fnOf "off_spans" "off_spans" (defArgs s_off_spans) (defBody s_off_spans) (defScope s_off_spans) .none kV_off_spans dc_off_spans pm_off_spans an_off_spans cd_off_spans ct_off_spans), f_rest_spans, (PySem.W.fnOf "rest_spans" "rest_spans" (defArgs s_rest_spans) (defBody s_rest_spans) (defScope s_rest_spans) .none kV_rest_spans dc_rest_spans pm_rest_spans an_rest_spans cd_rest_spans ct_rest_spans), f_steps_to_span, (PySem.W.fnOf "steps_to_span" "steps_to_span" (defArgs s_steps_to_span) (defBody s_steps_to_span) (defScope s_steps_to_span) .none kV_steps_to_span dc_steps_to_span pm_steps_to_span an_steps_to_span cd_steps_to_span ct_steps_to_span), f_gaps_from, (PySem.W.fnOf "gaps_from" "gaps_from" (defArgs s_gaps_from) (defBody s_gaps_from) (defScope s_gaps_from) .none kV_gaps_from dc_gaps_from pm_gaps_from an_gaps_from cd_gaps_from ct_gaps_from), f_Scheme_wrap, (PySem.W.fnOf "wrap" "Scheme.wrap" (defArgs s_Scheme_wrap) (defBody s_Scheme_wrap) (defScope s_Scheme_wrap) .none kV_Scheme_wrap dc_Scheme_wrap pm_Scheme_wrap an_Scheme_wrap cd_Scheme_wrap ct_Scheme_wrap), f_wrap_at, (PySem.W.fnOf "wrap_at" "wrap_at" (defArgs s_wrap_at) (defBody s_wrap_at) (defScope s_wrap_at) .none kV_wrap_at dc_wrap_at pm_wrap_at an_wrap_at cd_wrap_at ct_wrap_at), f_modulus_of, (PySem.W.fnOf "modulus_of" "modulus_of" (defArgs s_modulus_of) (defBody s_modulus_of) (defScope s_modulus_of) .none kV_modulus_of dc_modulus_of pm_modulus_of an_modulus_of cd_modulus_of ct_modulus_of), f_Scheme_slot, (PySem.W.fnOf "slot" "Scheme.slot" (defArgs s_Scheme_slot) (defBody s_Scheme_slot) (defScope s_Scheme_slot) .none kV_Scheme_slot dc_Scheme_slot pm_Scheme_slot an_Scheme_slot cd_Scheme_slot ct_Scheme_slot), f_check_counter, (PySem.W.fnOf "check_counter" "check_counter" (defArgs s_check_counter) (defBody s_check_counter) (defScope s_check_counter) .none kV_check_counter dc_check_counter pm_check_counter an_check_counter cd_check_counter ct_check_counter), f_slot_at, (PySem.W.fnOf "slot_at" "slot_at" (defArgs s_slot_at) (defBody s_slot_at) (defScope s_slot_at) .none kV_slot_at dc_slot_at pm_slot_at an_slot_at cd_slot_at ct_slot_at), f_gap_of, (PySem.W.fnOf "gap_of" "gap_of" (defArgs s_gap_of) (defBody s_gap_of) (defScope s_gap_of) .none kV_gap_of dc_gap_of pm_gap_of an_gap_of cd_gap_of ct_gap_of), f_is_small_form, (PySem.W.fnOf "is_small_form" "is_small_form" (defArgs s_is_small_form) (defBody s_is_small_form) (defScope s_is_small_form) .none kV_is_small_form dc_is_small_form pm_is_small_form an_is_small_form cd_is_small_form ct_is_small_form), f_is_full, (PySem.W.fnOf "is_full" "is_full" (defArgs s_is_full) (defBody s_is_full) (defScope s_is_full) .none kV_is_full dc_is_full pm_is_full an_is_full cd_is_full ct_is_full), f_is_wrap, (PySem.W.fnOf "is_wrap" "is_wrap" (defArgs s_is_wrap) (defBody s_is_wrap) (defScope s_is_wrap) .none kV_is_wrap dc_is_wrap pm_is_wrap an_is_wrap cd_is_wrap ct_is_wrap), f_is_part, (PySem.W.fnOf "is_part" "is_part" (defArgs s_is_part) (defBody s_is_part) (defScope s_is_part) .none kV_is_part dc_is_part pm_is_part an_is_part cd_is_part ct_is_part), f_first_wrong, (PySem.W.fnOf "first_wrong" "first_wrong" (defArgs s_first_wrong) (defBody s_first_wrong) (defScope s_first_wrong) .none kV_first_wrong dc_first_wrong pm_first_wrong an_first_wrong cd_first_wrong ct_first_wrong), f_Schemeu__initu_, (PySem.W.fnOf "__init__" "Scheme.__init__" (defArgs s_Schemeu__initu_) (defBody s_Schemeu__initu_) (defScope s_Schemeu__initu_) .none (.ref kD_Schemeu__initu_) dc_Schemeu__initu_ pm_Schemeu__initu_ an_Schemeu__initu_ cd_Schemeu__initu_ ct_Schemeu__initu_), f_l_source, (PySem.W.fnOf "_law_source" "_law_source" (defArgs s_l_source) (defBody s_l_source) (defScope s_l_source) .none kV_l_source dc_l_source pm_l_source an_l_source cd_l_source ct_l_source), f_l_draw, (PySem.W.fnOf "_law_draw" "_law_draw" (defArgs s_l_draw) (defBody s_l_draw) (defScope s_l_draw) .none kV_l_draw dc_l_draw pm_l_draw an_l_draw cd_l_draw ct_l_draw), f_l_pick, (PySem.W.fnOf "_law_pick" "_law_pick" (defArgs s_l_pick) (defBody s_l_pick) (defScope s_l_pick) .none kV_l_pick dc_l_pick pm_l_pick an_l_pick cd_l_pick ct_l_pick), f_l_limit, (PySem.W.fnOf "_law_limit" "_law_limit" (defArgs s_l_limit) (defBody s_l_limit) (defScope s_l_limit) .none kV_l_limit dc_l_limit pm_l_limit an_l_limit cd_l_limit ct_l_limit), f_l_parts, (PySem.W.fnOf "_law_parts" "_law_parts" (defArgs s_l_parts) (defBody s_l_parts) (defScope s_l_parts) .none kV_l_parts dc_l_parts pm_l_parts an_l_parts cd_l_parts ct_l_parts), f_l_wrap, (PySem.W.fnOf "_law_wrap" "_law_wrap" (defArgs s_l_wrap) (defBody s_l_wrap) (defScope s_l_wrap) .none kV_l_wrap dc_l_wrap pm_l_wrap an_l_wrap cd_l_wrap ct_l_wrap), f_l_rule, (PySem.W.fnOf "_law_rule" "_law_rule" (defArgs s_l_rule) (defBody s_l_rule) (defScope s_l_rule) .none kV_l_rule dc_l_rule pm_l_rule an_l_rule cd_l_rule ct_l_rule), f_l_scheme, (PySem.W.fnOf "_law_scheme" "_law_scheme" (defArgs s_l_scheme) (defBody s_l_scheme) (defScope s_l_scheme) .none kV_l_scheme dc_l_scheme pm_l_scheme an_l_scheme cd_l_scheme ct_l_scheme), f_l_modulus, (PySem.W.fnOf "_law_modulus" "_law_modulus" (defArgs s_l_modulus) (defBody s_l_modulus) (defScope s_l_modulus) .none kV_l_modulus dc_l_modulus pm_l_modulus an_l_modulus cd_l_modulus ct_l_modulus), f_l_slot, (PySem.W.fnOf "_law_slot" "_law_slot" (defArgs s_l_slot) (defBody s_l_slot) (defScope s_l_slot) .none kV_l_slot dc_l_slot pm_l_slot an_l_slot cd_l_slot ct_l_slot), f_l_power, (PySem.W.fnOf "_law_power" "_law_power" (defArgs s_l_power) (defBody s_l_power) (defScope s_l_power) .none kV_l_power dc_l_power pm_l_power an_l_power cd_l_power ct_l_power), f_l_size, (PySem.W.fnOf "_law_size" "_law_size" (defArgs s_l_size) (defBody s_l_size) (defScope s_l_size) .none kV_l_size dc_l_size pm_l_size an_l_size cd_l_size ct_l_size), f_l_lesser, (PySem.W.fnOf "_law_lesser" "_law_lesser" (defArgs s_l_lesser) (defBody s_l_lesser) (defScope s_l_lesser) .none kV_l_lesser dc_l_lesser pm_l_lesser an_l_lesser cd_l_lesser ct_l_lesser), f_l_right, (PySem.W.fnOf "_law_right" "_law_right" (defArgs s_l_right) (defBody s_l_right) (defScope s_l_right) .none kV_l_right dc_l_right pm_l_right an_l_right cd_l_right ct_l_right), fa, (PySem.W.fnOf "law" "law" (defArgs s_law) (defBody s_law) (defScope s_law) .none kV_law dc_law pm_law an_law cd_law ct_law), c_Form, c_Scheme, p_Scheme_wrap, p_Scheme_slot, t_GREATEST_SIZE, t_PART_NAMES, t_PART_WORDS, t_PART_WORDS_slot, t_PART_WORDS_empty, t_PART_WORDS_when, t_MEASURES, t_SIGNS, t_PLAIN_FULLS, t_GREATEST_SLOPE, t_GREATEST_BASE, t_GREATEST_WIDTH⟩ := {
    n_abs := PySem.W.mg_none_of X G h_n_abs,
    n_bool := PySem.W.mg_none_of X G h_n_bool,
    n_int := PySem.W.mg_none_of X G h_n_int,
    n_isinstance := PySem.W.mg_none_of X G h_n_isinstance,
    n_len := PySem.W.mg_none_of X G h_n_len,
    n_max := PySem.W.mg_none_of X G h_n_max,
    n_min := PySem.W.mg_none_of X G h_n_min,
    n_range := PySem.W.mg_none_of X G h_n_range,
    n_str := PySem.W.mg_none_of X G h_n_str,
    n_tuple := PySem.W.mg_none_of X G h_n_tuple,
    m_GREATEST_SIZE := PySem.W.mg_of X G h_m_GREATEST_SIZE,
    m_PART_NAMES := PySem.W.mg_of X G h_m_PART_NAMES,
    q_PART_NAMES := fun H => .inr ⟨_, [.str "wrap" tkq_PART_NAMES_0, .str "slot" tkq_PART_NAMES_1, .str "empty" tkq_PART_NAMES_2, .str "full" tkq_PART_NAMES_3, .str "when" tkq_PART_NAMES_4].toArray, _, h_lT_q_PART_NAMES, rfl, rfl, Nat.le_of_ble_eq_true rfl, (show Vals [.str "wrap", .str "slot", .str "empty", .str "full", .str "when"] [.str "wrap" tkq_PART_NAMES_0, .str "slot" tkq_PART_NAMES_1, .str "empty" tkq_PART_NAMES_2, .str "full" tkq_PART_NAMES_3, .str "when" tkq_PART_NAMES_4] from (.cons ⟨_, rfl⟩ (.cons ⟨_, rfl⟩ (.cons ⟨_, rfl⟩ (.cons ⟨_, rfl⟩ (.cons ⟨_, rfl⟩ .nil))))))⟩,
    m_PART_WORDS := PySem.W.mg_of X G h_m_PART_WORDS,
    q_PART_WORDS_slot := fun H => .inr ⟨_, [.str "rest" tkq_PART_WORDS_slot_0, .str "off" tkq_PART_WORDS_slot_1, .str "mask" tkq_PART_WORDS_slot_2].toArray, _, h_lT_q_PART_WORDS_slot, rfl, rfl, Nat.le_of_ble_eq_true rfl, (show Vals [.str "rest", .str "off", .str "mask"] [.str "rest" tkq_PART_WORDS_slot_0, .str "off" tkq_PART_WORDS_slot_1, .str "mask" tkq_PART_WORDS_slot_2] from (.cons ⟨_, rfl⟩ (.cons ⟨_, rfl⟩ (.cons ⟨_, rfl⟩ .nil))))⟩,
    d_PART_WORDS_slot := ⟨_, _, _, h_lD_PART_WORDS, h_zk_PART_WORDS, h_ns_PART_WORDS_slot, rfl⟩,
    q_PART_WORDS_empty := fun H => .inr ⟨_, [.str "same" tkq_PART_WORDS_empty_0, .str "count" tkq_PART_WORDS_empty_1, .str "note" tkq_PART_WORDS_empty_2].toArray, _, h_lT_q_PART_WORDS_empty, rfl, rfl, Nat.le_of_ble_eq_true rfl, (show Vals [.str "same", .str "count", .str "note"] [.str "same" tkq_PART_WORDS_empty_0, .str "count" tkq_PART_WORDS_empty_1, .str "note" tkq_PART_WORDS_empty_2] from (.cons ⟨_, rfl⟩ (.cons ⟨_, rfl⟩ (.cons ⟨_, rfl⟩ .nil))))⟩,
    d_PART_WORDS_empty := ⟨_, _, _, h_lD_PART_WORDS, h_zk_PART_WORDS, h_ns_PART_WORDS_empty, rfl⟩,
    q_PART_WORDS_when := fun H => .inr ⟨_, [.str "refuse" tkq_PART_WORDS_when_0, .str "drop" tkq_PART_WORDS_when_1, .str "over" tkq_PART_WORDS_when_2].toArray, _, h_lT_q_PART_WORDS_when, rfl, rfl, Nat.le_of_ble_eq_true rfl, (show Vals [.str "refuse", .str "drop", .str "over"] [.str "refuse" tkq_PART_WORDS_when_0, .str "drop" tkq_PART_WORDS_when_1, .str "over" tkq_PART_WORDS_when_2] from (.cons ⟨_, rfl⟩ (.cons ⟨_, rfl⟩ (.cons ⟨_, rfl⟩ .nil))))⟩,
    d_PART_WORDS_when := ⟨_, _, _, h_lD_PART_WORDS, h_zk_PART_WORDS, h_ns_PART_WORDS_when, rfl⟩,
    m_MEASURES := PySem.W.mg_of X G h_m_MEASURES,
    q_MEASURES := fun H => .inr ⟨_, [.str "diff" tkq_MEASURES_0, .str "count" tkq_MEASURES_1].toArray, _, h_lT_q_MEASURES, rfl, rfl, Nat.le_of_ble_eq_true rfl, (show Vals [.str "diff", .str "count"] [.str "diff" tkq_MEASURES_0, .str "count" tkq_MEASURES_1] from (.cons ⟨_, rfl⟩ (.cons ⟨_, rfl⟩ .nil)))⟩,
    m_SIGNS := PySem.W.mg_of X G h_m_SIGNS,
    q_SIGNS := fun H => .inr ⟨_, [.str "=" tkq_SIGNS_0, .str ">=" tkq_SIGNS_1].toArray, _, h_lT_q_SIGNS, rfl, rfl, Nat.le_of_ble_eq_true rfl, (show Vals [.str "=", .str ">="] [.str "=" tkq_SIGNS_0, .str ">=" tkq_SIGNS_1] from (.cons ⟨_, rfl⟩ (.cons ⟨_, rfl⟩ .nil)))⟩,
    m_PLAIN_FULLS := PySem.W.mg_of X G h_m_PLAIN_FULLS,
    q_PLAIN_FULLS := fun H => .inr ⟨_, [.str "next" tkq_PLAIN_FULLS_0, .str "note" tkq_PLAIN_FULLS_1].toArray, _, h_lT_q_PLAIN_FULLS, rfl, rfl, Nat.le_of_ble_eq_true rfl, (show Vals [.str "next", .str "note"] [.str "next" tkq_PLAIN_FULLS_0, .str "note" tkq_PLAIN_FULLS_1] from (.cons ⟨_, rfl⟩ (.cons ⟨_, rfl⟩ .nil)))⟩,
    m_GREATEST_SLOPE := PySem.W.mg_of X G h_m_GREATEST_SLOPE,
    m_GREATEST_BASE := PySem.W.mg_of X G h_m_GREATEST_BASE,
    m_GREATEST_WIDTH := PySem.W.mg_of X G h_m_GREATEST_WIDTH,
    m_Form := PySem.W.mg_of X G h_m_Form,
    k_Form := ⟨h_pg_Form, h_hd_Form, h_po_Form, h_sa_Form⟩,
    n_Form_slope := h_n_Form_slope,
    n_Form_base := h_n_Form_base,
    K_Form := ⟨h_mk_Form, h_in_Form, h_ii_Form, h_kp_Form⟩,
    i_Form := ⟨h_ha_Form, h_hn_Form, h_htk_Form, h_mo_Form⟩,
    kt_Form_Form := h_kt_Form_Form,
    kt_int_Form := h_kt_int_Form,
    m_Scheme := PySem.W.mg_of X G h_m_Scheme,
    k_Scheme := ⟨h_pg_Scheme, h_hd_Scheme, h_po_Scheme, h_sa_Scheme⟩,
    n_Scheme_parts := h_n_Scheme_parts,
    K_Scheme := ⟨h_mk_Scheme, h_in_Scheme, h_ii_Scheme, h_kp_Scheme⟩,
    m_is_whole := PySem.W.mg_of X G h_m_is_whole,
    F_is_whole := fun_mk (st := s_is_whole) h_l_is_whole h_c_is_whole h_k_is_whole,
    b_is_whole := (fun_mk (st := s_is_whole) h_l_is_whole h_c_is_whole h_k_is_whole).binds fun _ _ _ _ _ _ us hl => match us, hl with | [_], _ => rfl,
    m_is_whole_from := PySem.W.mg_of X G h_m_is_whole_from,
    F_is_whole_from := fun_mk (st := s_is_whole_from) h_l_is_whole_from h_c_is_whole_from h_k_is_whole_from,
    b_is_whole_from := (fun_mk (st := s_is_whole_from) h_l_is_whole_from h_c_is_whole_from h_k_is_whole_from).binds fun _ _ _ _ _ _ us hl => match us, hl with | [_, _, _], _ => rfl,
    m_is_word_of := PySem.W.mg_of X G h_m_is_word_of,
    F_is_word_of := fun_mk (st := s_is_word_of) h_l_is_word_of h_c_is_word_of h_k_is_word_of,
    b_is_word_of := (fun_mk (st := s_is_word_of) h_l_is_word_of h_c_is_word_of h_k_is_word_of).binds fun _ _ _ _ _ _ us hl => match us, hl with | [_, _], _ => rfl,
    m_is_size := PySem.W.mg_of X G h_m_is_size,
    F_is_size := fun_mk (st := s_is_size) h_l_is_size h_c_is_size h_k_is_size,
    b_is_size := (fun_mk (st := s_is_size) h_l_is_size h_c_is_size h_k_is_size).binds fun _ _ _ _ _ _ us hl => match us, hl with | [_], _ => rfl,
    m_check_size := PySem.W.mg_of X G h_m_check_size,
    F_check_size := fun_mk (st := s_check_size) h_l_check_size h_c_check_size h_k_check_size,
    b_check_size := (fun_mk (st := s_check_size) h_l_check_size h_c_check_size h_k_check_size).binds fun _ _ _ _ _ _ us hl => match us, hl with | [_], _ => rfl,
    F_Formu__initu_ := fun_mk (st := s_Formu__initu_) h_l_Formu__initu_ h_c_Formu__initu_ h_k_Formu__initu_,
    b_Formu__initu_ := (fun_mk (st := s_Formu__initu_) h_l_Formu__initu_ h_c_Formu__initu_ h_k_Formu__initu_).binds fun _ _ _ _ _ _ us hl => match us, hl with | [_, _, _], _ => rfl,
    m_form_at := PySem.W.mg_of X G h_m_form_at,
    F_form_at := fun_mk (st := s_form_at) h_l_form_at h_c_form_at h_k_form_at,
    b_form_at := (fun_mk (st := s_form_at) h_l_form_at h_c_form_at h_k_form_at).binds fun _ _ _ _ _ _ us hl => match us, hl with | [_, _], _ => rfl,
    m_mask_of := PySem.W.mg_of X G h_m_mask_of,
    F_mask_of := fun_mk (st := s_mask_of) h_l_mask_of h_c_mask_of h_k_mask_of,
    b_mask_of := (fun_mk (st := s_mask_of) h_l_mask_of h_c_mask_of h_k_mask_of).binds fun _ _ _ _ _ _ us hl => match us, hl with | [_, _], _ => rfl,
    m_steps_to_bits := PySem.W.mg_of X G h_m_steps_to_bits,
    F_steps_to_bits := fun_mk (st := s_steps_to_bits) h_l_steps_to_bits h_c_steps_to_bits h_k_steps_to_bits,
    b_steps_to_bits := (fun_mk (st := s_steps_to_bits) h_l_steps_to_bits h_c_steps_to_bits h_k_steps_to_bits).binds fun _ _ _ _ _ _ us hl => match us, hl with | [_, _, _, _], _ => rfl,
    m_mask_gaps := PySem.W.mg_of X G h_m_mask_gaps,
    F_mask_gaps := fun_mk (st := s_mask_gaps) h_l_mask_gaps h_c_mask_gaps h_k_mask_gaps,
    b_mask_gaps := (fun_mk (st := s_mask_gaps) h_l_mask_gaps h_c_mask_gaps h_k_mask_gaps).binds fun _ _ _ _ _ _ us hl => match us, hl with | [_, _, _], _ => rfl,
    m_off_spans := PySem.W.mg_of X G h_m_off_spans,
    F_off_spans := fun_mk (st := s_off_spans) h_l_off_spans h_c_off_spans h_k_off_spans,
    b_off_spans := (fun_mk (st := s_off_spans) h_l_off_spans h_c_off_spans h_k_off_spans).binds fun _ _ _ _ _ _ us hl => match us, hl with | [_, _], _ => rfl,
    m_rest_spans := PySem.W.mg_of X G h_m_rest_spans,
    F_rest_spans := fun_mk (st := s_rest_spans) h_l_rest_spans h_c_rest_spans h_k_rest_spans,
    b_rest_spans := (fun_mk (st := s_rest_spans) h_l_rest_spans h_c_rest_spans h_k_rest_spans).binds fun _ _ _ _ _ _ us hl => match us, hl with | [_, _], _ => rfl,
    m_steps_to_span := PySem.W.mg_of X G h_m_steps_to_span,
    F_steps_to_span := fun_mk (st := s_steps_to_span) h_l_steps_to_span h_c_steps_to_span h_k_steps_to_span,
    b_steps_to_span := (fun_mk (st := s_steps_to_span) h_l_steps_to_span h_c_steps_to_span h_k_steps_to_span).binds fun _ _ _ _ _ _ us hl => match us, hl with | [_, _, _, _], _ => rfl,
    m_gaps_from := PySem.W.mg_of X G h_m_gaps_from,
    F_gaps_from := fun_mk (st := s_gaps_from) h_l_gaps_from h_c_gaps_from h_k_gaps_from,
    b_gaps_from := (fun_mk (st := s_gaps_from) h_l_gaps_from h_c_gaps_from h_k_gaps_from).binds fun _ _ _ _ _ _ us hl => match us, hl with | [_, _, _, _], _ => rfl,
    F_Scheme_wrap := fun_mk (st := s_Scheme_wrap) h_l_Scheme_wrap h_c_Scheme_wrap h_k_Scheme_wrap,
    b_Scheme_wrap := (fun_mk (st := s_Scheme_wrap) h_l_Scheme_wrap h_c_Scheme_wrap h_k_Scheme_wrap).binds fun _ _ _ _ _ _ us hl => match us, hl with | [_], _ => rfl,
    m_wrap_at := PySem.W.mg_of X G h_m_wrap_at,
    F_wrap_at := fun_mk (st := s_wrap_at) h_l_wrap_at h_c_wrap_at h_k_wrap_at,
    b_wrap_at := (fun_mk (st := s_wrap_at) h_l_wrap_at h_c_wrap_at h_k_wrap_at).binds fun _ _ _ _ _ _ us hl => match us, hl with | [_, _], _ => rfl,
    m_modulus_of := PySem.W.mg_of X G h_m_modulus_of,
    F_modulus_of := fun_mk (st := s_modulus_of) h_l_modulus_of h_c_modulus_of h_k_modulus_of,
    b_modulus_of := (fun_mk (st := s_modulus_of) h_l_modulus_of h_c_modulus_of h_k_modulus_of).binds fun _ _ _ _ _ _ us hl => match us, hl with | [_, _], _ => rfl,
    F_Scheme_slot := fun_mk (st := s_Scheme_slot) h_l_Scheme_slot h_c_Scheme_slot h_k_Scheme_slot,
    b_Scheme_slot := (fun_mk (st := s_Scheme_slot) h_l_Scheme_slot h_c_Scheme_slot h_k_Scheme_slot).binds fun _ _ _ _ _ _ us hl => match us, hl with | [_], _ => rfl,
    m_check_counter := PySem.W.mg_of X G h_m_check_counter,
    F_check_counter := fun_mk (st := s_check_counter) h_l_check_counter h_c_check_counter h_k_check_counter,
    b_check_counter := (fun_mk (st := s_check_counter) h_l_check_counter h_c_check_counter h_k_check_counter).binds fun _ _ _ _ _ _ us hl => match us, hl with | [_, _], _ => rfl,
    m_slot_at := PySem.W.mg_of X G h_m_slot_at,
    F_slot_at := fun_mk (st := s_slot_at) h_l_slot_at h_c_slot_at h_k_slot_at,
    b_slot_at := (fun_mk (st := s_slot_at) h_l_slot_at h_c_slot_at h_k_slot_at).binds fun _ _ _ _ _ _ us hl => match us, hl with | [_, _, _], _ => rfl,
    m_gap_of := PySem.W.mg_of X G h_m_gap_of,
    F_gap_of := fun_mk (st := s_gap_of) h_l_gap_of h_c_gap_of h_k_gap_of,
    b_gap_of := (fun_mk (st := s_gap_of) h_l_gap_of h_c_gap_of h_k_gap_of).binds fun _ _ _ _ _ _ us hl => match us, hl with | [_, _, _], _ => rfl,
    m_is_small_form := PySem.W.mg_of X G h_m_is_small_form,
    F_is_small_form := fun_mk (st := s_is_small_form) h_l_is_small_form h_c_is_small_form h_k_is_small_form,
    b_is_small_form := (fun_mk (st := s_is_small_form) h_l_is_small_form h_c_is_small_form h_k_is_small_form).binds fun _ _ _ _ _ _ us hl => match us, hl with | [_], _ => rfl,
    m_is_full := PySem.W.mg_of X G h_m_is_full,
    F_is_full := fun_mk (st := s_is_full) h_l_is_full h_c_is_full h_k_is_full,
    b_is_full := (fun_mk (st := s_is_full) h_l_is_full h_c_is_full h_k_is_full).binds fun _ _ _ _ _ _ us hl => match us, hl with | [_], _ => rfl,
    m_is_wrap := PySem.W.mg_of X G h_m_is_wrap,
    F_is_wrap := fun_mk (st := s_is_wrap) h_l_is_wrap h_c_is_wrap h_k_is_wrap,
    b_is_wrap := (fun_mk (st := s_is_wrap) h_l_is_wrap h_c_is_wrap h_k_is_wrap).binds fun _ _ _ _ _ _ us hl => match us, hl with | [_], _ => rfl,
    m_is_part := PySem.W.mg_of X G h_m_is_part,
    F_is_part := fun_mk (st := s_is_part) h_l_is_part h_c_is_part h_k_is_part,
    b_is_part := (fun_mk (st := s_is_part) h_l_is_part h_c_is_part h_k_is_part).binds fun _ _ _ _ _ _ us hl => match us, hl with | [_, _], _ => rfl,
    m_first_wrong := PySem.W.mg_of X G h_m_first_wrong,
    F_first_wrong := fun_mk (st := s_first_wrong) h_l_first_wrong h_c_first_wrong h_k_first_wrong,
    b_first_wrong := (fun_mk (st := s_first_wrong) h_l_first_wrong h_c_first_wrong h_k_first_wrong).binds fun _ _ _ _ _ _ us hl => match us, hl with | [_], _ => rfl,
    F_Schemeu__initu_ := ⟨⟨_, _, _, _, _, _, _, _, _, _, rfl, h_l_Schemeu__initu_, h_c_Schemeu__initu_, .inl ⟨rfl, rfl⟩, .inr ⟨_, rfl, fun q hq => by simp only [List.mem_singleton] at hq; subst hq; exact ⟨_, h_kd_Schemeu__initu__when, ⟨_, rfl⟩⟩⟩⟩, h_k_Schemeu__initu_⟩,
    kb_Schemeu__initu_ := FunD.kbinds0 (kws := [("when", .str "refuse")]) (ps := ["self", "wrap", "slot", "empty", "full", "when"]) (show FunD K _ _ _ _ _ _ _ _ _ from ⟨⟨_, _, _, _, _, _, _, _, _, _, rfl, h_l_Schemeu__initu_, h_c_Schemeu__initu_, .inl ⟨rfl, rfl⟩, .inr ⟨_, rfl, fun q hq => by simp only [List.mem_singleton] at hq; subst hq; exact ⟨_, h_kd_Schemeu__initu__when, ⟨_, rfl⟩⟩⟩⟩, h_k_Schemeu__initu_⟩) 1 ["wrap", "slot", "empty", "full", "when"] [] (fun us _ ws => us ++ ws) (by simp) (by simp) (fun r1 _ r3 => r1.append r3) (fun D doc pm an cdv ct us mv ws h1 h2 h3 => match us, mv, ws, h1, h2, h3 with | [_], [], [_, _, _, _, _], _, _, _ => rfl),
    m_l_source := PySem.W.mg_of X G h_m_l_source,
    F_l_source := fun_mk (st := s_l_source) h_l_l_source h_c_l_source h_k_l_source,
    b_l_source := (fun_mk (st := s_l_source) h_l_l_source h_c_l_source h_k_l_source).binds fun _ _ _ _ _ _ us hl => match us, hl with | [_, _], _ => rfl,
    m_l_draw := PySem.W.mg_of X G h_m_l_draw,
    F_l_draw := fun_mk (st := s_l_draw) h_l_l_draw h_c_l_draw h_k_l_draw,
    b_l_draw := (fun_mk (st := s_l_draw) h_l_l_draw h_c_l_draw h_k_l_draw).binds fun _ _ _ _ _ _ us hl => match us, hl with | [_, _], _ => rfl,
    m_l_pick := PySem.W.mg_of X G h_m_l_pick,
    F_l_pick := fun_mk (st := s_l_pick) h_l_l_pick h_c_l_pick h_k_l_pick,
    b_l_pick := (fun_mk (st := s_l_pick) h_l_l_pick h_c_l_pick h_k_l_pick).binds fun _ _ _ _ _ _ us hl => match us, hl with | [_, _], _ => rfl,
    m_l_limit := PySem.W.mg_of X G h_m_l_limit,
    F_l_limit := fun_mk (st := s_l_limit) h_l_l_limit h_c_l_limit h_k_l_limit,
    b_l_limit := (fun_mk (st := s_l_limit) h_l_l_limit h_c_l_limit h_k_l_limit).binds fun _ _ _ _ _ _ us hl => match us, hl with | [_], _ => rfl,
    m_l_parts := PySem.W.mg_of X G h_m_l_parts,
    F_l_parts := fun_mk (st := s_l_parts) h_l_l_parts h_c_l_parts h_k_l_parts,
    b_l_parts := (fun_mk (st := s_l_parts) h_l_l_parts h_c_l_parts h_k_l_parts).binds fun _ _ _ _ _ _ us hl => match us, hl with | [_, _], _ => rfl,
    m_l_wrap := PySem.W.mg_of X G h_m_l_wrap,
    F_l_wrap := fun_mk (st := s_l_wrap) h_l_l_wrap h_c_l_wrap h_k_l_wrap,
    b_l_wrap := (fun_mk (st := s_l_wrap) h_l_l_wrap h_c_l_wrap h_k_l_wrap).binds fun _ _ _ _ _ _ us hl => match us, hl with | [_], _ => rfl,
    m_l_rule := PySem.W.mg_of X G h_m_l_rule,
    F_l_rule := fun_mk (st := s_l_rule) h_l_l_rule h_c_l_rule h_k_l_rule,
    b_l_rule := (fun_mk (st := s_l_rule) h_l_l_rule h_c_l_rule h_k_l_rule).binds fun _ _ _ _ _ _ us hl => match us, hl with | [_], _ => rfl,
    m_l_scheme := PySem.W.mg_of X G h_m_l_scheme,
    F_l_scheme := fun_mk (st := s_l_scheme) h_l_l_scheme h_c_l_scheme h_k_l_scheme,
    b_l_scheme := (fun_mk (st := s_l_scheme) h_l_l_scheme h_c_l_scheme h_k_l_scheme).binds fun _ _ _ _ _ _ us hl => match us, hl with | [_], _ => rfl,
    m_l_modulus := PySem.W.mg_of X G h_m_l_modulus,
    F_l_modulus := fun_mk (st := s_l_modulus) h_l_l_modulus h_c_l_modulus h_k_l_modulus,
    b_l_modulus := (fun_mk (st := s_l_modulus) h_l_l_modulus h_c_l_modulus h_k_l_modulus).binds fun _ _ _ _ _ _ us hl => match us, hl with | [_, _], _ => rfl,
    m_l_slot := PySem.W.mg_of X G h_m_l_slot,
    F_l_slot := fun_mk (st := s_l_slot) h_l_l_slot h_c_l_slot h_k_l_slot,
    b_l_slot := (fun_mk (st := s_l_slot) h_l_l_slot h_c_l_slot h_k_l_slot).binds fun _ _ _ _ _ _ us hl => match us, hl with | [_, _, _], _ => rfl,
    m_l_power := PySem.W.mg_of X G h_m_l_power,
    F_l_power := fun_mk (st := s_l_power) h_l_l_power h_c_l_power h_k_l_power,
    b_l_power := (fun_mk (st := s_l_power) h_l_l_power h_c_l_power h_k_l_power).binds fun _ _ _ _ _ _ us hl => match us, hl with | [_], _ => rfl,
    m_l_size := PySem.W.mg_of X G h_m_l_size,
    F_l_size := fun_mk (st := s_l_size) h_l_l_size h_c_l_size h_k_l_size,
    b_l_size := (fun_mk (st := s_l_size) h_l_l_size h_c_l_size h_k_l_size).binds fun _ _ _ _ _ _ us hl => match us, hl with | [_], _ => rfl,
    m_l_lesser := PySem.W.mg_of X G h_m_l_lesser,
    F_l_lesser := fun_mk (st := s_l_lesser) h_l_l_lesser h_c_l_lesser h_k_l_lesser,
    b_l_lesser := (fun_mk (st := s_l_lesser) h_l_l_lesser h_c_l_lesser h_k_l_lesser).binds fun _ _ _ _ _ _ us hl => match us, hl with | [_, _, _], _ => rfl,
    m_l_right := PySem.W.mg_of X G h_m_l_right,
    F_l_right := fun_mk (st := s_l_right) h_l_l_right h_c_l_right h_k_l_right,
    b_l_right := (fun_mk (st := s_l_right) h_l_l_right h_c_l_right h_k_l_right).binds fun _ _ _ _ _ _ us hl => match us, hl with | [_, _, _, _, _, _], _ => rfl,
    m_law := PySem.W.mg_of X G h_m_law,
    F_law := fun_mk (st := s_law) h_l_law h_c_law h_k_law,
    b_law := (fun_mk (st := s_law) h_l_law h_c_law h_k_law).binds fun _ _ _ _ _ _ us hl => match us, hl with | [_], _ => rfl,
    R_Scheme_wrap := ⟨h_a1_Scheme_wrap, h_pg_Scheme_wrap, h_pt_Scheme_wrap, ⟨_, h_a2_Scheme_wrap⟩⟩,
    R_Scheme_slot := ⟨h_a1_Scheme_slot, h_pg_Scheme_slot, h_pt_Scheme_slot, ⟨_, h_a2_Scheme_slot⟩⟩,
    nf_Form_Form := h_nf_Form_Form,
    nf_int_Form := h_nf_int_Form }
  exact ⟨_, fun s v => .of_eq rfl, fun base _ _ => ok_law T⟩
theorem walk {l : PySem.W.OpenLaw} {q : Program} {loose : List Str} {XP : (Str → Option Value) → Heap → Prop} {YP : World → Heap → Prop} {d : DefRec} {K : Params → PySem.W.Frag} (hn : l.most = some 63) (hdf : d.params.defaults = [])
    (hY : ∀ (w : World) (h : Heap), YP w h → (K w.params).In h)
    (F : ∀ (w : World) (mg : Str → Option Value) (fa : Addr) (h : Heap), (K w.params).In h → h.Ns mainGlobals mg → mg d.name = some (.ref fa) →
      ∃ fd : FuncData, (∀ (s : Shared) (u : Value), BindsTo s fd ⟨[u], []⟩ [("_law_script", u)]) ∧ ∀ base : Heap, (K w.params).In base → base.Ns mainGlobals mg → FnOk l.prog w (K w.params) mg base CX0 9 fa fd ["_law_script"] (sp_law (K w.params))) :
    PySem.W.WalkO q loose XP YP l.row.toRowW d [] (fun f vs => PySem.call f vs) :=
  L2.walk_of (n := 63) (k := 9) (x := "_law_script") (CX := fun _ => CX0) (sp := fun w => sp_law (K w.params)) hn (by decide) hdf ⟨rfl, by decide, by decide⟩ hY F (fun _ _ a ns hl _ hS => ⟨a, ns, rfl, hS, hl, fun _ => rfl⟩) fun _ _ _ _ _ z => z
end Pk13
open PySem PySem.W PyProof.Rows
set_option maxRecDepth 100000 in
set_option maxHeartbeats 0 in
theorem PySem.Challenge.cw_ringindexes_k13_whole_gaps_of_great_ring_holds : PySem.Challenge.rw_ringindexes_k13_whole_gaps_of_great_ring.Holds := by
  w_on; o_law; k_head; (case hw => w_witness2)
  k_fill
  refine Pk13.walk (l := PySem.Challenge.rw_ringindexes_k13_whole_gaps_of_great_ring) rfl rfl (fun w h Y => PySem.W.kIn_of Y) ?F
  case F =>
    intro w mg fa h KX G hmg
    refine' Pk13.all_mk KX G hmg ?h_n_abs ?h_n_bool ?h_n_int ?h_n_isinstance ?h_n_len ?h_n_max ?h_n_min ?h_n_range ?h_n_str ?h_n_tuple ?h_m_GREATEST_SIZE ?h_m_PART_NAMES ?h_m_PART_WORDS ?h_m_MEASURES ?h_m_SIGNS ?h_m_PLAIN_FULLS ?h_m_GREATEST_SLOPE ?h_m_GREATEST_BASE ?h_m_GREATEST_WIDTH ?h_m_Form ?h_n_Form_slope ?h_n_Form_base ?h_m_Scheme ?h_n_Scheme_parts ?h_m_is_whole ?h_m_is_whole_from ?h_m_is_word_of ?h_m_is_size ?h_m_check_size ?h_m_form_at ?h_m_mask_of ?h_m_steps_to_bits ?h_m_mask_gaps ?h_m_off_spans ?h_m_rest_spans ?h_m_steps_to_span ?h_m_gaps_from ?h_m_wrap_at ?h_m_modulus_of ?h_m_check_counter ?h_m_slot_at ?h_m_gap_of ?h_m_is_small_form ?h_m_is_full ?h_m_is_wrap ?h_m_is_part ?h_m_first_wrong ?h_m_l_source ?h_m_l_draw ?h_m_l_pick ?h_m_l_limit ?h_m_l_parts ?h_m_l_wrap ?h_m_l_rule ?h_m_l_scheme ?h_m_l_modulus ?h_m_l_slot ?h_m_l_power ?h_m_l_size ?h_m_l_lesser ?h_m_l_right ?h_m_law ?h_in_Form ?h_in_Scheme ?h_a1_Scheme_wrap ?h_a1_Scheme_slot ?h_ns_PART_WORDS_slot ?h_ns_PART_WORDS_empty ?h_ns_PART_WORDS_when ?h_a2_Scheme_wrap ?h_a2_Scheme_slot ?h_lD_PART_WORDS ?h_l_is_whole ?h_l_is_whole_from ?h_l_is_word_of ?h_l_is_size ?h_l_check_size ?h_l_Formu__initu_ ?h_l_form_at ?h_l_mask_of ?h_l_steps_to_bits ?h_l_mask_gaps ?h_l_off_spans ?h_l_rest_spans ?h_l_steps_to_span ?h_l_gaps_from ?h_l_Scheme_wrap ?h_l_wrap_at ?h_l_modulus_of ?h_l_Scheme_slot ?h_l_check_counter ?h_l_slot_at ?h_l_gap_of ?h_l_is_small_form ?h_l_is_full ?h_l_is_wrap ?h_l_is_part ?h_l_first_wrong ?h_l_Schemeu__initu_ ?h_kd_Schemeu__initu__when ?h_l_l_source ?h_l_l_draw ?h_l_l_pick ?h_l_l_limit ?h_l_l_parts ?h_l_l_wrap ?h_l_l_rule ?h_l_l_scheme ?h_l_l_modulus ?h_l_l_slot ?h_l_l_power ?h_l_l_size ?h_l_l_lesser ?h_l_l_right ?h_l_law ?h_lT_q_PART_NAMES ?h_lT_q_PART_WORDS_slot ?h_lT_q_PART_WORDS_empty ?h_lT_q_PART_WORDS_when ?h_lT_q_MEASURES ?h_lT_q_SIGNS ?h_lT_q_PLAIN_FULLS ?h_zk_PART_WORDS ?h_pg_Form ?h_hd_Form ?h_po_Form ?h_sa_Form ?h_mk_Form ?h_ii_Form ?h_kp_Form ?h_ha_Form ?h_mo_Form ?h_hn_Form ?h_htk_Form ?h_kt_Form_Form ?h_kt_int_Form ?h_pg_Scheme ?h_hd_Scheme ?h_po_Scheme ?h_sa_Scheme ?h_mk_Scheme ?h_ii_Scheme ?h_kp_Scheme ?h_c_is_whole ?h_k_is_whole ?h_c_is_whole_from ?h_k_is_whole_from ?h_c_is_word_of ?h_k_is_word_of ?h_c_is_size ?h_k_is_size ?h_c_check_size ?h_k_check_size ?h_c_Formu__initu_ ?h_k_Formu__initu_ ?h_c_form_at ?h_k_form_at ?h_c_mask_of ?h_k_mask_of ?h_c_steps_to_bits ?h_k_steps_to_bits ?h_c_mask_gaps ?h_k_mask_gaps ?h_c_off_spans ?h_k_off_spans ?h_c_rest_spans ?h_k_rest_spans ?h_c_steps_to_span ?h_k_steps_to_span ?h_c_gaps_from ?h_k_gaps_from ?h_c_Scheme_wrap ?h_k_Scheme_wrap ?h_c_wrap_at ?h_k_wrap_at ?h_c_modulus_of ?h_k_modulus_of ?h_c_Scheme_slot ?h_k_Scheme_slot ?h_c_check_counter ?h_k_check_counter ?h_c_slot_at ?h_k_slot_at ?h_c_gap_of ?h_k_gap_of ?h_c_is_small_form ?h_k_is_small_form ?h_c_is_full ?h_k_is_full ?h_c_is_wrap ?h_k_is_wrap ?h_c_is_part ?h_k_is_part ?h_c_first_wrong ?h_k_first_wrong ?h_c_Schemeu__initu_ ?h_k_Schemeu__initu_ ?h_c_l_source ?h_k_l_source ?h_c_l_draw ?h_k_l_draw ?h_c_l_pick ?h_k_l_pick ?h_c_l_limit ?h_k_l_limit ?h_c_l_parts ?h_k_l_parts ?h_c_l_wrap ?h_k_l_wrap ?h_c_l_rule ?h_k_l_rule ?h_c_l_scheme ?h_k_l_scheme ?h_c_l_modulus ?h_k_l_modulus ?h_c_l_slot ?h_k_l_slot ?h_c_l_power ?h_k_l_power ?h_c_l_size ?h_k_l_size ?h_c_l_lesser ?h_k_l_lesser ?h_c_l_right ?h_k_l_right ?h_c_law ?h_k_law ?h_pg_Scheme_wrap ?h_pt_Scheme_wrap ?h_pg_Scheme_slot ?h_pt_Scheme_slot ?h_nf_Form_Form ?h_nf_int_Form
    (case h_n_abs => k_is)
    (case h_n_bool => k_is)
    (case h_n_int => k_is)
    (case h_n_isinstance => k_is)
    (case h_n_len => k_is)
    (case h_n_max => k_is)
    (case h_n_min => k_is)
    (case h_n_range => k_is)
    (case h_n_str => k_is)
    (case h_n_tuple => k_is)
    (case h_m_GREATEST_SIZE => k_is)
    (case h_m_PART_NAMES => k_is)
    (case h_m_PART_WORDS => k_is)
    (case h_m_MEASURES => k_is)
    (case h_m_SIGNS => k_is)
    (case h_m_PLAIN_FULLS => k_is)
    (case h_m_GREATEST_SLOPE => k_is)
    (case h_m_GREATEST_BASE => k_is)
    (case h_m_GREATEST_WIDTH => k_is)
    (case h_m_Form => k_is)
    (case h_n_Form_slope => k_is)
    (case h_n_Form_base => k_is)
    (case h_m_Scheme => k_is)
    (case h_n_Scheme_parts => k_is)
    (case h_m_is_whole => k_is)
    (case h_m_is_whole_from => k_is)
    (case h_m_is_word_of => k_is)
    (case h_m_is_size => k_is)
    (case h_m_check_size => k_is)
    (case h_m_form_at => k_is)
    (case h_m_mask_of => k_is)
    (case h_m_steps_to_bits => k_is)
    (case h_m_mask_gaps => k_is)
    (case h_m_off_spans => k_is)
    (case h_m_rest_spans => k_is)
    (case h_m_steps_to_span => k_is)
    (case h_m_gaps_from => k_is)
    (case h_m_wrap_at => k_is)
    (case h_m_modulus_of => k_is)
    (case h_m_check_counter => k_is)
    (case h_m_slot_at => k_is)
    (case h_m_gap_of => k_is)
    (case h_m_is_small_form => k_is)
    (case h_m_is_full => k_is)
    (case h_m_is_wrap => k_is)
    (case h_m_is_part => k_is)
    (case h_m_first_wrong => k_is)
    (case h_m_l_source => k_is)
    (case h_m_l_draw => k_is)
    (case h_m_l_pick => k_is)
    (case h_m_l_limit => k_is)
    (case h_m_l_parts => k_is)
    (case h_m_l_wrap => k_is)
    (case h_m_l_rule => k_is)
    (case h_m_l_scheme => k_is)
    (case h_m_l_modulus => k_is)
    (case h_m_l_slot => k_is)
    (case h_m_l_power => k_is)
    (case h_m_l_size => k_is)
    (case h_m_l_lesser => k_is)
    (case h_m_l_right => k_is)
    (case h_m_law => k_is)
    (case h_in_Form => k_is)
    (case h_in_Scheme => k_is)
    (case h_a1_Scheme_wrap => k_is)
    (case h_a1_Scheme_slot => k_is)
    (case h_ns_PART_WORDS_slot => k_is)
    (case h_ns_PART_WORDS_empty => k_is)
    (case h_ns_PART_WORDS_when => k_is)
    (case h_a2_Scheme_wrap => k_is)
    (case h_a2_Scheme_slot => k_is)
    (case h_lD_PART_WORDS => k_is)
    (case h_l_is_whole => k_is)
    (case h_l_is_whole_from => k_is)
    (case h_l_is_word_of => k_is)
    (case h_l_is_size => k_is)
    (case h_l_check_size => k_is)
    (case h_l_Formu__initu_ => k_is)
    (case h_l_form_at => k_is)
    (case h_l_mask_of => k_is)
    (case h_l_steps_to_bits => k_is)
    (case h_l_mask_gaps => k_is)
    (case h_l_off_spans => k_is)
    (case h_l_rest_spans => k_is)
    (case h_l_steps_to_span => k_is)
    (case h_l_gaps_from => k_is)
    (case h_l_Scheme_wrap => k_is)
    (case h_l_wrap_at => k_is)
    (case h_l_modulus_of => k_is)
    (case h_l_Scheme_slot => k_is)
    (case h_l_check_counter => k_is)
    (case h_l_slot_at => k_is)
    (case h_l_gap_of => k_is)
    (case h_l_is_small_form => k_is)
    (case h_l_is_full => k_is)
    (case h_l_is_wrap => k_is)
    (case h_l_is_part => k_is)
    (case h_l_first_wrong => k_is)
    (case h_l_Schemeu__initu_ => k_is)
    (case h_kd_Schemeu__initu__when => k_is)
    (case h_l_l_source => k_is)
    (case h_l_l_draw => k_is)
    (case h_l_l_pick => k_is)
    (case h_l_l_limit => k_is)
    (case h_l_l_parts => k_is)
    (case h_l_l_wrap => k_is)
    (case h_l_l_rule => k_is)
    (case h_l_l_scheme => k_is)
    (case h_l_l_modulus => k_is)
    (case h_l_l_slot => k_is)
    (case h_l_l_power => k_is)
    (case h_l_l_size => k_is)
    (case h_l_l_lesser => k_is)
    (case h_l_l_right => k_is)
    (case h_l_law => k_is)
    (case h_lT_q_PART_NAMES => k_is)
    (case h_lT_q_PART_WORDS_slot => k_is)
    (case h_lT_q_PART_WORDS_empty => k_is)
    (case h_lT_q_PART_WORDS_when => k_is)
    (case h_lT_q_MEASURES => k_is)
    (case h_lT_q_SIGNS => k_is)
    (case h_lT_q_PLAIN_FULLS => k_is)
    (case h_zk_PART_WORDS => repeat' (first | exact trivial | (refine ⟨⟨_, _, rfl, rfl⟩, ?_⟩)))
    (case h_pg_Form => k_is)
    (case h_hd_Form => k_is)
    (case h_po_Form => k_is)
    (case h_sa_Form => k_is)
    (case h_mk_Form => k_is)
    (case h_ii_Form => k_is)
    (case h_kp_Form => k_is)
    (case h_ha_Form => k_is)
    (case h_mo_Form => k_is)
    (case h_hn_Form => k_is)
    (case h_htk_Form => k_is)
    (case h_kt_Form_Form => kit_is)
    (case h_kt_int_Form => kit_is)
    (case h_pg_Scheme => k_is)
    (case h_hd_Scheme => k_is)
    (case h_po_Scheme => k_is)
    (case h_sa_Scheme => k_is)
    (case h_mk_Scheme => k_is)
    (case h_ii_Scheme => k_is)
    (case h_kp_Scheme => k_is)
    (case h_c_is_whole => k_is)
    (case h_k_is_whole => k_is)
    (case h_c_is_whole_from => k_is)
    (case h_k_is_whole_from => k_is)
    (case h_c_is_word_of => k_is)
    (case h_k_is_word_of => k_is)
    (case h_c_is_size => k_is)
    (case h_k_is_size => k_is)
    (case h_c_check_size => k_is)
    (case h_k_check_size => k_is)
    (case h_c_Formu__initu_ => k_is)
    (case h_k_Formu__initu_ => k_is)
    (case h_c_form_at => k_is)
    (case h_k_form_at => k_is)
    (case h_c_mask_of => k_is)
    (case h_k_mask_of => k_is)
    (case h_c_steps_to_bits => k_is)
    (case h_k_steps_to_bits => k_is)
    (case h_c_mask_gaps => k_is)
    (case h_k_mask_gaps => k_is)
    (case h_c_off_spans => k_is)
    (case h_k_off_spans => k_is)
    (case h_c_rest_spans => k_is)
    (case h_k_rest_spans => k_is)
    (case h_c_steps_to_span => k_is)
    (case h_k_steps_to_span => k_is)
    (case h_c_gaps_from => k_is)
    (case h_k_gaps_from => k_is)
    (case h_c_Scheme_wrap => k_is)
    (case h_k_Scheme_wrap => k_is)
    (case h_c_wrap_at => k_is)
    (case h_k_wrap_at => k_is)
    (case h_c_modulus_of => k_is)
    (case h_k_modulus_of => k_is)
    (case h_c_Scheme_slot => k_is)
    (case h_k_Scheme_slot => k_is)
    (case h_c_check_counter => k_is)
    (case h_k_check_counter => k_is)
    (case h_c_slot_at => k_is)
    (case h_k_slot_at => k_is)
    (case h_c_gap_of => k_is)
    (case h_k_gap_of => k_is)
    (case h_c_is_small_form => k_is)
    (case h_k_is_small_form => k_is)
    (case h_c_is_full => k_is)
    (case h_k_is_full => k_is)
    (case h_c_is_wrap => k_is)
    (case h_k_is_wrap => k_is)
    (case h_c_is_part => k_is)
    (case h_k_is_part => k_is)
    (case h_c_first_wrong => k_is)
    (case h_k_first_wrong => k_is)
    (case h_c_Schemeu__initu_ => k_is)
    (case h_k_Schemeu__initu_ => k_is)
    (case h_c_l_source => k_is)
    (case h_k_l_source => k_is)
    (case h_c_l_draw => k_is)
    (case h_k_l_draw => k_is)
    (case h_c_l_pick => k_is)
    (case h_k_l_pick => k_is)
    (case h_c_l_limit => k_is)
    (case h_k_l_limit => k_is)
    (case h_c_l_parts => k_is)
    (case h_k_l_parts => k_is)
    (case h_c_l_wrap => k_is)
    (case h_k_l_wrap => k_is)
    (case h_c_l_rule => k_is)
    (case h_k_l_rule => k_is)
    (case h_c_l_scheme => k_is)
    (case h_k_l_scheme => k_is)
    (case h_c_l_modulus => k_is)
    (case h_k_l_modulus => k_is)
    (case h_c_l_slot => k_is)
    (case h_k_l_slot => k_is)
    (case h_c_l_power => k_is)
    (case h_k_l_power => k_is)
    (case h_c_l_size => k_is)
    (case h_k_l_size => k_is)
    (case h_c_l_lesser => k_is)
    (case h_k_l_lesser => k_is)
    (case h_c_l_right => k_is)
    (case h_k_l_right => k_is)
    (case h_c_law => k_is)
    (case h_k_law => k_is)
    (case h_pg_Scheme_wrap => k_is)
    (case h_pt_Scheme_wrap => k_is)
    (case h_pg_Scheme_slot => k_is)
    (case h_pt_Scheme_slot => k_is)
    (case h_nf_Form_Form => k_is)
    (case h_nf_int_Form => k_is)
